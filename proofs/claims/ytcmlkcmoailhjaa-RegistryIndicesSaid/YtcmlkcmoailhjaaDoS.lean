/- do: a validator is replaced. (mkdo.py writes this text.) -/
import Derived.Test.YtcmlkcmoailhjaaDoA
namespace Go.Proofs.Ytcmlkcmoailhjaa
open Go Go.RowKit Go.Deep
set_option linter.unusedVariables false
set_option linter.unusedSimpArgs false

theorem setv_out (b cap : Nat) (S : Nat → Prop) (i : Int) (l : List Val) (v : Val) (w : World) (h : Reg w b S cap l) (hv : FitsV v) (ho : i < 0 ∨ l.length ≤ i) :
    Calls Try.prog 24 #[.pointer (some ⟨b, 0, none⟩), .int .i64 i, .agg (cellsV v)] w fun e w' => e = .returned (.int .i64 7) ∧ Reg w' b S cap l ∧ Kept S w w' :=
  (setv_any b cap S i l v w h hv).mono fun e w' hh => by
    rcases hh with ⟨_, h1⟩ | ⟨k, old, rfl, h1, _⟩
    · exact h1
    · have := (List.getElem?_eq_some_iff.1 h1).1; omega
theorem setv_at (b cap i : Nat) (S : Nat → Prop) (l : List Val) (old v : Val) (w : World) (h : Reg w b S cap l) (hv : FitsV v) (ho : l[i]? = some old) (ht : totalOf l - old.bal + v.bal ≤ 18446744073709551615) :
    Calls Try.prog 24 #[.pointer (some ⟨b, 0, none⟩), .int .i64 i, .agg (cellsV v)] w fun e w' => e = .returned (.int .i64 0) ∧ Reg w' b S cap (l.set i v) ∧ Kept S w w' :=
  (setv_any b cap S i l v w h hv).mono fun e w' hh => by
    have := (List.getElem?_eq_some_iff.1 ho).1
    rcases hh with ⟨h0, h1⟩ | ⟨k, old', hk, h1, h2⟩
    · omega
    · obtain rfl : i = k := by omega
      obtain rfl : old = old' := by rw [ho] at h1; injection h1
      rcases h2 with ⟨_, h2⟩ | ⟨h2, _⟩
      · exact h2
      · omega
theorem setv_exc (b cap i : Nat) (S : Nat → Prop) (l : List Val) (old v : Val) (w : World) (h : Reg w b S cap l) (hv : FitsV v) (ho : l[i]? = some old) (ht : 18446744073709551615 < totalOf l - old.bal + v.bal) :
    Calls Try.prog 24 #[.pointer (some ⟨b, 0, none⟩), .int .i64 i, .agg (cellsV v)] w fun e w' => e = .returned (.int .i64 10) ∧ Reg w' b S cap l ∧ Kept S w w' :=
  (setv_any b cap S i l v w h hv).mono fun e w' hh => by
    have := (List.getElem?_eq_some_iff.1 ho).1
    rcases hh with ⟨h0, h1⟩ | ⟨k, old', hk, h1, h2⟩
    · omega
    · obtain rfl : i = k := by omega
      obtain rfl : old = old' := by rw [ho] at h1; injection h1
      rcases h2 with ⟨h2, _⟩ | ⟨_, h2⟩
      · omega
      · exact h2
/-- Put, and what the next calls want of it. -/
theorem put_at (S : Nat → Prop) (a : Option Addr) (cp i : Nat) (old v : Val) (l : List Val) (w : World) (h : Lst w S a l) (hl : l.length ≤ 4096) (hi : l[i]? = some old) :
    Calls Try.prog 25 #[.slice a l.length cp, .int .i64 i, .agg (cellsV v)] w fun e w' => ∃ g c, e = .returned (.slice (some ⟨g, 0, none⟩) l.length c) ∧ Lst w' (fun i => i < w.heap.size) (some ⟨g, 0, none⟩) (l.set i v) ∧ Below w.heap.size w w' :=
  (put_any S a cp i old v l w h hl hi).mono fun e w' ⟨u, he, ho, hb⟩ => by
    have hil := (List.getElem?_eq_some_iff.1 hi).1
    rcases ho.2 with ⟨_, h0⟩ | ⟨g, c, cur, rfl, _⟩
    · omega
    · refine ⟨g, c, he, ?_, hb⟩
      have h2 := ho
      have e : l.length = (l.set i v).length := by simp
      rw [e] at ho
      exact owns_lst (cp := c) (owns_base ho (Nat.zero_le _)) (fun q hq hlt => by rw [← e] at hq; have := (h2.lt q hq).1; omega)
theorem fits_set_any (S : Nat → Prop) (a : Option Addr) (c i : Nat) (l : List Val) (old v : Val) (w : World) (r : Bool) (h : Lst w S a (l.set i v)) (hi : l[i]? = some old) (hl : l.length ≤ 4096) (hf : ∀ x ∈ l, FitsV x) (hv : FitsV v) (hr : decide (totalOf l - old.bal + v.bal ≤ 18446744073709551615) = r) :
    Calls Try.prog 22 #[.slice a l.length c] w fun e w' => e = .returned (.bool r) ∧ Below w.heap.size w w' := by
  have := fits_any S a c (l.set i v) w h (by simpa using hl) (fun x hx => by
    rcases List.mem_or_eq_of_mem_set hx with hx | rfl
    · exact hf x hx
    · exact hv)
  rw [List.length_set, total_set hi, hr] at this
  exact this

set_option maxHeartbeats 1600000 in
theorem do_index (b cap cp : Nat) (S : Nat → Prop) (a : Option Addr) (k : Nat) (v : Val) (l : List Val) (w : World) (h : Reg w b S cap l) (hL : Lst w S a l) (hv : FitsV v) (hc : (l.length : Int) ≤ k) :
    Calls Try.prog 11 #[.pointer (some ⟨b, 0, none⟩), .slice a l.length cp, .int .i64 cap, .agg (opCells ((k : Int), v))] w (DoPost w b cap S) := by
  have HR0 := Lib.hid (h.alloc (.cells (opCells ((k : Int), v)) 31))
  have HL0 := Lib.hid (hL.alloc (.cells (opCells ((k : Int), v)) 31))
  have HE : Hid (Blk (w.alloc (.cells (opCells ((k : Int), v)) 31)) w.heap.size 31 (opCells ((k : Int), v))) := Lib.hid (Blk.new _ _ _)
  have HB : Hid (Below w.heap.size w (w.alloc (.cells (opCells ((k : Int), v)) 31))) := Lib.hid ((Below.refl _ _).alloc (Nat.le_refl _) _)
  have x0 : (w.alloc (.cells (opCells ((k : Int), v)) 31)).cell? ⟨w.heap.size, 0, none⟩ = some (.int .i64 k) := HE.out.opV.1
  have hfit := h.fits
  obtain ⟨f1, f2, f3, f4, f5⟩ := hfit
  have HF := Lib.hid f5
  have HV := Lib.hid hv
  have hSn : ¬ S w.heap.size := fun hs => by have := h.lt _ hs; omega
  have hlt0 := h.lt
  have HLT := Lib.hid hlt0
  have HS0 : Hid (∀ i, S i → i < w.heap.size) := Lib.hid hlt0
  obtain ⟨v0, v1⟩ := hv.bal
  obtain ⟨n0, hn0⟩ : ∃ n, w.heap.size = n := ⟨_, rfl⟩
  rw [hn0] at HE x0 hSn
  have H := Lib.hid (setv_out b cap S k l v _ HR0.out hv (.inr hc))
  have hk0 : ¬ (k : Int) < 0 := by omega
  clear h hL hv f5 hlt0
  go_enter Try.func11, Try.ntmps11
  go_wp2_with (refine wpList_load_val rfl 29 _ rfl n0 1 rfl v _ HE.out.opV.2 Try.underlying29 rfl infoV ?_)
  generalize (w.alloc (.cells (opCells ((k : Int), v)) 31)) = W at *
  refine H.out.mono ?_
  rintro e w1 ⟨rfl, hr1, hk1⟩
  have hKK := Lib.hid ((Kept.of_below HB.out : Kept S w W).trans hk1 (fun _ _ h => h))
  have HE1 := Lib.hid (HE.out.kept hk1 hSn)
  have HR1 := Lib.hid hr1
  have LA := Lib.hid (HL0.out.same hk1.size (fun q hq hnq => hk1.block q hq hnq))
  have hw1 := HB.out.size
  have hw2 := hk1.size
  have y0 : w1.cell? ⟨n0, 0, none⟩ = some (.int .i64 k) := HE1.out.opV.1
  clear hr1 hk1 H HE x0
  go_wp2
  go_ret2
  exact ⟨_, _, l, S, rfl, HR1.out, LA.out, fun i hi => .inl hi, hKK.out⟩
set_option maxHeartbeats 1600000 in
theorem do_exceeds (b cap cp : Nat) (S : Nat → Prop) (a : Option Addr) (k : Nat) (v : Val) (l : List Val) (w : World) (h : Reg w b S cap l) (hL : Lst w S a l) (hv : FitsV v) (old : Val) (ho : l[k]? = some old) (ht : 18446744073709551615 < totalOf l - old.bal + v.bal) :
    Calls Try.prog 11 #[.pointer (some ⟨b, 0, none⟩), .slice a l.length cp, .int .i64 cap, .agg (opCells ((k : Int), v))] w (DoPost w b cap S) := by
  have HR0 := Lib.hid (h.alloc (.cells (opCells ((k : Int), v)) 31))
  have HL0 := Lib.hid (hL.alloc (.cells (opCells ((k : Int), v)) 31))
  have HE : Hid (Blk (w.alloc (.cells (opCells ((k : Int), v)) 31)) w.heap.size 31 (opCells ((k : Int), v))) := Lib.hid (Blk.new _ _ _)
  have HB : Hid (Below w.heap.size w (w.alloc (.cells (opCells ((k : Int), v)) 31))) := Lib.hid ((Below.refl _ _).alloc (Nat.le_refl _) _)
  have x0 : (w.alloc (.cells (opCells ((k : Int), v)) 31)).cell? ⟨w.heap.size, 0, none⟩ = some (.int .i64 k) := HE.out.opV.1
  have hfit := h.fits
  obtain ⟨f1, f2, f3, f4, f5⟩ := hfit
  have HF := Lib.hid f5
  have HV := Lib.hid hv
  have hSn : ¬ S w.heap.size := fun hs => by have := h.lt _ hs; omega
  have hlt0 := h.lt
  have HLT := Lib.hid hlt0
  have HS0 : Hid (∀ i, S i → i < w.heap.size) := Lib.hid hlt0
  obtain ⟨v0, v1⟩ := hv.bal
  obtain ⟨n0, hn0⟩ : ∃ n, w.heap.size = n := ⟨_, rfl⟩
  rw [hn0] at HE x0 hSn
  have hkl := (List.getElem?_eq_some_iff.1 ho).1
  have H := Lib.hid (setv_exc b cap k S l old v _ HR0.out hv ho ht)
  have hge : ¬ (l.length : Int) ≤ (k : Int) := by omega
  have HO := Lib.hid ho
  clear ho
  have hk0 : ¬ (k : Int) < 0 := by omega
  clear h hL hv f5 hlt0
  go_enter Try.func11, Try.ntmps11
  go_wp2_with (refine wpList_load_val rfl 29 _ rfl n0 1 rfl v _ HE.out.opV.2 Try.underlying29 rfl infoV ?_)
  generalize (w.alloc (.cells (opCells ((k : Int), v)) 31)) = W at *
  refine H.out.mono ?_
  rintro e w1 ⟨rfl, hr1, hk1⟩
  have hKK := Lib.hid ((Kept.of_below HB.out : Kept S w W).trans hk1 (fun _ _ h => h))
  have HE1 := Lib.hid (HE.out.kept hk1 hSn)
  have HR1 := Lib.hid hr1
  have LA := Lib.hid (HL0.out.same hk1.size (fun q hq hnq => hk1.block q hq hnq))
  have hw1 := HB.out.size
  have hw2 := hk1.size
  have y0 : w1.cell? ⟨n0, 0, none⟩ = some (.int .i64 k) := HE1.out.opV.1
  clear hr1 hk1 H HE x0
  go_wp2_with (refine wpList_load_val rfl 29 _ rfl n0 1 rfl v _ HE1.out.opV.2 Try.underlying29 rfl infoV ?_)
  refine (put_at S a cp k old v l w1 LA.out (by omega) HO.out).mono ?_
  rintro e w2 ⟨g, c, rfl, hl2, hb2⟩
  have L2 := Lib.hid hl2
  have B2 := Lib.hid hb2
  clear hl2 hb2
  go_wp2_with fail
  refine (fits_set_any _ _ c k l old v w2 false L2.out HO.out (by omega) HF.out HV.out (decide_eq_false (by omega))).mono ?_
  rintro e w3 ⟨rfl, hb3⟩
  have B3 := Lib.hid hb3
  clear hb3
  go_wp2_with fail
  go_ret2
  exact ⟨_, _, l, S, rfl, (HR1.out.below B2.out).below B3.out, (LA.out.below B2.out).below B3.out, fun i hi => .inl hi, (hKK.out.trans (Kept.of_below B2.out : Kept S w1 w2) (fun _ _ h => h)).trans (Kept.of_below B3.out : Kept S w2 w3) (fun _ _ h => h)⟩
set_option maxHeartbeats 1600000 in
theorem do_set (b cap cp : Nat) (S : Nat → Prop) (a : Option Addr) (k : Nat) (v : Val) (l : List Val) (w : World) (h : Reg w b S cap l) (hL : Lst w S a l) (hv : FitsV v) (old : Val) (ho : l[k]? = some old) (ht : totalOf l - old.bal + v.bal ≤ 18446744073709551615) :
    Calls Try.prog 11 #[.pointer (some ⟨b, 0, none⟩), .slice a l.length cp, .int .i64 cap, .agg (opCells ((k : Int), v))] w (DoPost w b cap S) := by
  have HR0 := Lib.hid (h.alloc (.cells (opCells ((k : Int), v)) 31))
  have HL0 := Lib.hid (hL.alloc (.cells (opCells ((k : Int), v)) 31))
  have HE : Hid (Blk (w.alloc (.cells (opCells ((k : Int), v)) 31)) w.heap.size 31 (opCells ((k : Int), v))) := Lib.hid (Blk.new _ _ _)
  have HB : Hid (Below w.heap.size w (w.alloc (.cells (opCells ((k : Int), v)) 31))) := Lib.hid ((Below.refl _ _).alloc (Nat.le_refl _) _)
  have x0 : (w.alloc (.cells (opCells ((k : Int), v)) 31)).cell? ⟨w.heap.size, 0, none⟩ = some (.int .i64 k) := HE.out.opV.1
  have hfit := h.fits
  obtain ⟨f1, f2, f3, f4, f5⟩ := hfit
  have HF := Lib.hid f5
  have HV := Lib.hid hv
  have hSn : ¬ S w.heap.size := fun hs => by have := h.lt _ hs; omega
  have hlt0 := h.lt
  have HLT := Lib.hid hlt0
  have HS0 : Hid (∀ i, S i → i < w.heap.size) := Lib.hid hlt0
  obtain ⟨v0, v1⟩ := hv.bal
  obtain ⟨n0, hn0⟩ : ∃ n, w.heap.size = n := ⟨_, rfl⟩
  rw [hn0] at HE x0 hSn
  have hkl := (List.getElem?_eq_some_iff.1 ho).1
  have H := Lib.hid (setv_at b cap k S l old v _ HR0.out hv ho ht)
  have hge : ¬ (l.length : Int) ≤ (k : Int) := by omega
  have HO := Lib.hid ho
  clear ho
  have hk0 : ¬ (k : Int) < 0 := by omega
  clear h hL hv f5 hlt0
  go_enter Try.func11, Try.ntmps11
  go_wp2_with (refine wpList_load_val rfl 29 _ rfl n0 1 rfl v _ HE.out.opV.2 Try.underlying29 rfl infoV ?_)
  generalize (w.alloc (.cells (opCells ((k : Int), v)) 31)) = W at *
  refine H.out.mono ?_
  rintro e w1 ⟨rfl, hr1, hk1⟩
  have hKK := Lib.hid ((Kept.of_below HB.out : Kept S w W).trans hk1 (fun _ _ h => h))
  have HE1 := Lib.hid (HE.out.kept hk1 hSn)
  have HR1 := Lib.hid hr1
  have LA := Lib.hid (HL0.out.same hk1.size (fun q hq hnq => hk1.block q hq hnq))
  have hw1 := HB.out.size
  have hw2 := hk1.size
  have y0 : w1.cell? ⟨n0, 0, none⟩ = some (.int .i64 k) := HE1.out.opV.1
  clear hr1 hk1 H HE x0
  go_wp2_with (refine wpList_load_val rfl 29 _ rfl n0 1 rfl v _ HE1.out.opV.2 Try.underlying29 rfl infoV ?_)
  refine (put_at S a cp k old v l w1 LA.out (by omega) HO.out).mono ?_
  rintro e w2 ⟨g, c, rfl, hl2, hb2⟩
  have L2 := Lib.hid hl2
  have B2 := Lib.hid hb2
  clear hl2 hb2
  go_wp2_with fail
  refine (fits_set_any _ _ c k l old v w2 true L2.out HO.out (by omega) HF.out HV.out (decide_eq_true (by omega))).mono ?_
  rintro e w3 ⟨rfl, hb3⟩
  have B3 := Lib.hid hb3
  clear hb3
  go_wp2_with fail
  go_ret2
  have hlst : Lst w2 S (some ⟨g, 0, none⟩) (l.set k v) := L2.out.more (fun i hi hs => HR1.out.lt i hs)
  exact ⟨_, _, l.set k v, S, by rw [List.length_set]; rfl, (HR1.out.below B2.out).below B3.out, hlst.below B3.out, fun i hi => .inl hi, (hKK.out.trans (Kept.of_below B2.out : Kept S w1 w2) (fun _ _ h => h)).trans (Kept.of_below B3.out : Kept S w2 w3) (fun _ _ h => h)⟩
/-- do, whatever the operation. -/
theorem do_any (b cap cp : Nat) (S : Nat → Prop) (a : Option Addr) (k : Int) (v : Val) (l : List Val) (w : World) (h : Reg w b S cap l) (hL : Lst w S a l) (hv : FitsV v) :
    Calls Try.prog 11 #[.pointer (some ⟨b, 0, none⟩), .slice a l.length cp, .int .i64 cap, .agg (opCells (k, v))] w (DoPost w b cap S) := by
  obtain ⟨f1, f2, f3, f4, f5⟩ := h.fits
  by_cases hk : k < 0
  · by_cases hc : l.length = cap
    · exact do_full b cap cp S a k v l w h hL hv hk hc
    · by_cases ht : totalOf l + v.bal ≤ 18446744073709551615
      · exact do_added b cap cp S a k v l w h hL hv hk (by omega) ht
      · exact do_over b cap cp S a k v l w h hL hv hk (by omega) (by omega)
  · obtain ⟨i, rfl⟩ : ∃ i : Nat, k = i := ⟨k.toNat, by omega⟩
    by_cases hc : l.length ≤ i
    · exact do_index b cap cp S a i v l w h hL hv (by omega)
    · obtain ⟨old, ho⟩ : ∃ old, l[i]? = some old := ⟨_, List.getElem?_eq_getElem (by omega)⟩
      by_cases ht : totalOf l - old.bal + v.bal ≤ 18446744073709551615
      · exact do_set b cap cp S a i v l w h hL hv old ho ht
      · exact do_exceeds b cap cp S a i v l w h hL hv old ho (by omega)
end Go.Proofs.Ytcmlkcmoailhjaa
