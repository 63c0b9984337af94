/- Part 9 of 29: Lst. -/
import Derived.Test.YtobgbcdgffgdhaaGreatZu06
import Derived.Laws.EntriesVeiled
namespace Go.Proofs.YtobgbcdgffgdhaaGreat
set_option linter.unusedVariables false
set_option linter.unusedSimpArgs false
section
open Go Go.RowKit Go.Deep
set_option maxRecDepth 100000
def Means (w : World) (f : Value) (l : List Val) (p : Val → Bool) : Prop :=
 ∃ (F : Nat) (caps : Array Value), f = .func (.func F) #[] caps ∧ (∀ args w, (callFunc F args).run Tryz.prog w = .ok (.enter F args) w) ∧
  ∀ w1 v, Below w.heap.size w w1 → v ∈ l → Calls Tryz.prog F (#[.agg (cellsV v)] ++ caps) w1 fun o w2 => o = .returned (.bool (p v)) ∧ Below w1.heap.size w1 w2
theorem Means.below {w w' : World} {f : Value} {l : List Val} {p : Val → Bool} (h : Means w f l p) (hb : Below w.heap.size w w') : Means w' f l p := by
 obtain ⟨F, caps, h1, h2, h3⟩ := h
 exact ⟨F, caps, h1, h2, fun w1 v hb1 hv => h3 w1 v (hb.trans (hb1.mono hb.size)) hv⟩
set_option maxHeartbeats 1600000 in
theorem count_means (S : Nat → Prop) (a : Option Addr) (n cp : Nat) (f : Value) (l : List Val) (p : Val → Bool) (w : World) (h : Lst w S a l) (hl : l.length = n) (hn : n ≤ 4096) (hm : Means w f l p) :
  CallB 113 #[.slice a n cp, f] w (.int .i64 ((l.countP p : Nat) : Int)) := by
 obtain ⟨F, caps, rfl, hen, hcall⟩ := hm
 have HL := Lib.hid h
 have HC := Lib.hid hcall
 have HN := Lib.hid hl
 clear h hcall hl
 go_enter Tryz.func113, Tryz.ntmps113
 go_wp2_with fail
 go_loopw [5, 10] (fun s5 s10 wr => ∃ k t : Nat, k ≤ n ∧ s10 = .int .i64 k ∧ s5 = .int .i64 t ∧ t ≤ 4096 ∧ Hid (t = (l.take k).countP p ∧ t ≤ k) ∧ Below w.heap.size w wr) (fun _ s10 _ => n - (intOf s10).toNat)
 case atStart => exact ⟨0, 0, by omega, rfl, rfl, by omega, Lib.hid ⟨by simp, by omega⟩, Below.refl _ _⟩
 case round =>
  obtain ⟨k, t, hk, rfl, rfl, ht, HT, BR⟩ := hrel
  by_cases hlt : k < n
  ·obtain ⟨v, hv⟩ : ∃ v, l[k]? = some v := ⟨_, List.getElem?_eq_getElem (by rw [HN.out]; exact hlt)⟩
   obtain ⟨b, off, rfl, hr⟩ := (HL.out.below BR).at hv
   have HR := Lib.hid hr
   have HS : Hid ((l.take (k + 1)).countP p = t + if p v = true then 1 else 0) := Lib.hid (by rw [countP_snoc p hv, HT.out.1])
   have HTK := Lib.hid HT.out.2
   have HM : Hid (v ∈ l) := Lib.hid (List.mem_of_getElem? hv)
   have B1 : Hid (Below w.heap.size w (wr.alloc (.cells (cellsV v) 68))) := Lib.hid (BR.alloc BR.size _)
   have N1 : Hid (Blk (wr.alloc (.cells (cellsV v) 68)) wr.heap.size 68 (cellsV v)) := Lib.hid (Blk.new wr _ _)
   clear hr hv BR HT
   go_upto_region 5 with (first | (refine wpList_load_val rfl 68 _ rfl b (off + k * 7) rfl v _ HR.out Tryz.underlying68 rfl infoV ?_) | (refine wsr wr.heap.size (cellsV v) 68 (heap_alloc_new wr _) infoV (cellsV_one _) ?_; rw [World.setRow_alloc_new]))
   try simp only [Act.put]
   clear HR
   generalize wr.alloc (.cells (cellsV v) 68) = W at *
   generalize wr.heap.size = g at *
   go_wp2_with (first | (refine wlr 68 g N1.out Tryz.underlying68 infoV ?_))
   refine (HC.out W v B1.out HM.out).mono ?_
   rintro e w1 ⟨rfl, hb⟩
   have B2 : Hid (Below w.heap.size w w1) := Lib.hid (B1.out.trans (hb.mono B1.out.size))
   clear hb B1 N1 HM
   cases hp : p v with
   | true =>
    have HS2 : Hid ((l.take (k + 1)).countP p = t + 1) := Lib.hid (by rw [HS.out, hp]; rfl)
    clear HS hp
    go_wp2_with fail
    go_roundw
    case rel => exact ⟨k + 1, t + 1, by omega, by go_num, by go_num, by have := HTK.out; omega, Lib.hid ⟨HS2.out.symm, by have := HTK.out; omega⟩, B2.out⟩
    case measure => simp [intOf]; omega
   | false =>
    have HS2 : Hid ((l.take (k + 1)).countP p = t) := Lib.hid (by rw [HS.out, hp]; rfl)
    clear HS hp
    go_wp2_with fail
    go_roundw
    case rel => exact ⟨k + 1, t, by omega, by go_num, rfl, ht, Lib.hid ⟨HS2.out.symm, by have := HTK.out; omega⟩, B2.out⟩
    case measure => simp [intOf]; omega
  ·obtain rfl : k = n := by omega
   have HE : Hid (t = l.countP p) := Lib.hid (by rw [HT.out.1, List.take_of_length_le (by rw [HN.out]; exact Nat.le_refl _)])
   have B2 := Lib.hid BR
   clear hlt BR HT
   have hlt : ¬ k < k := by omega
   go_wp2_with fail
   go_ret
   exact ⟨by rw [HE.out]; rfl, B2.out⟩
theorem each_means (S : Nat → Prop) (a : Option Addr) (n cp : Nat) (f : Value) (l : List Val) (p : Val → Bool) (w : World) (h : Lst w S a l) (hl : l.length = n) (hn : n ≤ 4096) (hm : Means w f l p) :
  CallB 108 #[.slice a n cp, f] w (.bool (l.all p)) := by
 have HC := Lib.hid (count_means S a n cp f l p w h hl hn hm)
 obtain ⟨t, ht⟩ := named (l.countP p)
 rw [ht] at HC
 obtain ⟨r, hr⟩ := named (l.all p)
 have d : ((t : Int) == (n : Int)) = r := by
  rw [← hr, ← all_count, ht, hl, Bool.eq_iff_iff, beq_iff_eq, decide_eq_true_eq]
  omega
 have d2 : (t == n) = r := by
  rw [← d, Bool.eq_iff_iff, beq_iff_eq, beq_iff_eq]
  omega
 rw [hr]
 clear h hl hn hm ht hr
 go_enter Tryz.func108, Tryz.ntmps108
 go_wp2_with fail
 refine HC.out.mono ?_
 rintro e w1 ⟨rfl, hb⟩
 have HB := Lib.hid hb
 clear hb HC
 go_wp2_with fail
 go_ret
 exact ⟨rfl, HB.out⟩
def totQ (l : List Val) (p : Val → Bool) : Int := if totalOf (l.filter p) ≤ 18446744073709551615 then totalOf (l.filter p) else 0
def totOk (l : List Val) (p : Val → Bool) : Bool := decide (totalOf (l.filter p) ≤ 18446744073709551615)
set_option maxHeartbeats 1600000 in
theorem total_means (S : Nat → Prop) (a : Option Addr) (n cp : Nat) (f : Value) (l : List Val) (p : Val → Bool) (w : World) (h : Lst w S a l) (hl : l.length = n) (hn : n ≤ 4096) (hf : ∀ v ∈ l, FitsV v) (hm : Means w f l p) :
  CallB 99 #[.slice a n cp, f] w (.tuple #[.int .u64 (totQ l p), .bool (totOk l p)]) := by
 obtain ⟨F, caps, rfl, hen, hcall⟩ := hm
 have HL := Lib.hid h
 have HC := Lib.hid hcall
 have HN := Lib.hid hl
 have HF := Lib.hid hf
 obtain ⟨j0, hj0, hz0, hz1, hz2⟩ := u64_app
 have HA : Hid (∀ (v : Value) (w' : World), w'.ownsRow w.heap.size 23 1 v (l.filter p).length (numsOf (l.filter p)) → CallW 101 #[v] w' (.tuple #[.int .u64 (totQ l p), .bool (totOk l p)])) := Lib.hid fun v w' ho => by
  rcases ho.2 with ⟨rfl, h0⟩ | ⟨g, c, cur, rfl, _⟩
  ·have h1 := List.eq_nil_of_length_eq_zero h0
   have e1 : totQ l p = 0 := by unfold totQ; rw [h1]; rfl
   have e2 : totOk l p = true := by unfold totOk; rw [h1]; rfl
   rw [e1, e2]
   exact add_none none 0 w'
  ·have h3 := add_row g 0 (l.filter p).length c (bals (l.filter p)) w' (by have := List.length_filter_le p l; omega) (num_at ho rfl) (bals_range fun v hv => hf v (List.mem_filter.1 hv).1)
   rw [addQ, addOk, sum_all] at h3
   exact h3
 clear h hcall hl hf
 go_enter Tryz.func99, Tryz.ntmps99
 go_wp2_with fail
 go_loopw [6, 11] (fun s6 s11 wr => ∃ k : Nat, k ≤ n ∧ s11 = .int .i64 k ∧ Hid (wr.ownsRow w.heap.size 23 1 s6 ((l.take k).filter p).length (numsOf ((l.take k).filter p))) ∧ Below w.heap.size w wr) (fun _ s11 _ => n - (intOf s11).toNat)
 case atStart => exact ⟨0, by omega, rfl, Lib.hid (World.ownsRow_nil _ _ _ _), Below.refl _ _⟩
 case round =>
  obtain ⟨k, hk, rfl, HO, BR⟩ := hrel
  by_cases hlt : k < n
  ·obtain ⟨v, hv⟩ : ∃ v, l[k]? = some v := ⟨_, List.getElem?_eq_getElem (by rw [HN.out]; exact hlt)⟩
   obtain ⟨b, off, rfl, hr⟩ := (HL.out.below BR).at hv
   have HR := Lib.hid hr
   have HS := Lib.hid (filter_snoc p hv)
   have HM : Hid (v ∈ l) := Lib.hid (List.mem_of_getElem? hv)
   have B1 : Hid (Below w.heap.size w (wr.alloc (.cells (cellsV v) 68))) := Lib.hid (BR.alloc BR.size _)
   have N1 : Hid (Blk (wr.alloc (.cells (cellsV v) 68)) wr.heap.size 68 (cellsV v)) := Lib.hid (Blk.new wr _ _)
   have O1 := Lib.hid (HO.out.alloc (.cells (cellsV v) 68))
   have hlen : ((l.take k).filter p).length ≤ 4096 := by have := List.length_filter_le p (l.take k); rw [List.length_take] at this; omega
   have HLE := Lib.hid hlen
   clear hr hv BR HO hlen
   go_upto_region 5 with (first | (refine wpList_load_val rfl 68 _ rfl b (off + k * 7) rfl v _ HR.out Tryz.underlying68 rfl infoV ?_) | (refine wsr wr.heap.size (cellsV v) 68 (heap_alloc_new wr _) infoV (cellsV_one _) ?_; rw [World.setRow_alloc_new]))
   try simp only [Act.put]
   clear HR
   generalize wr.alloc (.cells (cellsV v) 68) = W at *
   generalize wr.heap.size = g at *
   go_wp2_with (first | (refine wlr 68 g N1.out Tryz.underlying68 infoV ?_))
   refine (HC.out W v B1.out HM.out).mono ?_
   rintro e w1 ⟨rfl, hb⟩
   have B2 : Hid (Below w.heap.size w w1) := Lib.hid (B1.out.trans (hb.mono B1.out.size))
   have N2 := Lib.hid (N1.out.below hb N1.out.lt)
   have O2 := Lib.hid (ownsR_below O1.out hb)
   clear hb B1 N1 HM O1
   cases hp : p v with
   | true =>
    have HS2 : Hid ((l.take (k + 1)).filter p = (l.take k).filter p ++ [v]) := Lib.hid (by rw [HS.out, hp]; rfl)
    have e0 := cel N2.out 0
    clear HS hp
    generalize (l.take k).filter p = L at *
    obtain ⟨m, hmm⟩ := named (L.length)
    rw [hmm] at O2 HLE
    have HMM := Lib.hid hmm
    clear hmm
    go_wp2_with (at_builtin; refine wpList_append_src _ rfl _ _ 121 rfl w.heap.size 23 j0 _ 1 8 Tryz.underlying121 hj0 hz0 hz1 hz2 rfl Nat.one_pos u6 m (numsOf L) rfl (O2.out.alloc _) (some ⟨w1.heap.size, 0, none⟩) 1 1 [.int .u64 v.bal] rfl rfl (fun _ => ⟨_, rfl, cell_one_new w1 _ _⟩) (by simp [Value.oneCell']) (by have := HLE.out; unfold maxLen; omega) (by have := HLE.out; omega) (by have := B2.out.size; simp; omega) ?_; intro v1 w2 ho hg hv1)
    have HZ : Hid (w2.ownsRow w.heap.size 23 1 v1 ((l.take (k + 1)).filter p).length (numsOf ((l.take (k + 1)).filter p)) ∧ Below w.heap.size w w2) := Lib.hid (by
     refine ⟨by rw [HS2.out, nums_append, List.length_append, HMM.out]; exact ho, ?_⟩
     have hsz := B2.out.size
     refine (B2.out.alloc hsz _).grown hg (by simp; omega) (fun q hq => ?_)
     rcases O2.out.2 with ⟨h1, _⟩ | ⟨g, cp', cur, h1, h2, _⟩
     ·rw [h1] at hq; cases hq
     ·rw [h1] at hq; simp [Value.ownBlock] at hq; omega)
    clear ho hg hv1 e0 O2 B2
    go_wp2_with fail
    go_roundw
    case rel => exact ⟨k + 1, by omega, by go_num, Lib.hid HZ.out.1, HZ.out.2⟩
    case measure => simp [intOf]; omega
   | false =>
    have HS2 : Hid ((l.take (k + 1)).filter p = (l.take k).filter p) := Lib.hid (by rw [HS.out, hp]; simp)
    clear HS hp
    go_wp2_with fail
    go_roundw
    case rel => exact ⟨k + 1, by omega, by go_num, Lib.hid (by rw [HS2.out]; exact O2.out), B2.out⟩
    case measure => simp [intOf]; omega
  ·obtain rfl : k = n := by omega
   have HZ : Hid (wr.ownsRow w.heap.size 23 1 u6 (l.filter p).length (numsOf (l.filter p))) := Lib.hid (by
    have := HO.out
    rwa [List.take_of_length_le (by rw [HN.out]; exact Nat.le_refl _)] at this)
   have B2 := Lib.hid BR
   clear hlt BR HO
   have hlt : ¬ k < k := by omega
   go_wp2_with fail
   refine (HA.out _ _ HZ.out).mono ?_
   rintro e w1 ⟨rfl, rfl⟩
   go_wp2_with fail
   go_ret2
   exact ⟨rfl, B2.out⟩
end
end Go.Proofs.YtobgbcdgffgdhaaGreat
