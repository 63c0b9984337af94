/- The reference: Balances, Fits, Total, Active, Count, Put, Same. -/
import Derived.Test.YtcmlkcmoailhjaaAllV
namespace Go.Proofs.Ytcmlkcmoailhjaa
open Go Go.RowKit Go.Deep
set_option linter.unusedVariables false
set_option linter.unusedSimpArgs false

def bals (l : List Val) : List Int := l.map (·.bal)
theorem take_snoc {l : List Val} {k : Nat} {v : Val} (h : l[k]? = some v) : l.take (k + 1) = l.take k ++ [v] := by
  have hk := (List.getElem?_eq_some_iff.1 h).1
  rw [List.take_add_one, h]
  rfl
theorem sum_bals (l : List Val) : ∀ n, n ≤ l.length → sumTo (bals l) n = totalOf (l.take n)
  | 0, _ => by simp [sumTo, totalOf]
  | n + 1, h => by
    obtain ⟨v, hv⟩ : ∃ v, l[n]? = some v := ⟨_, List.getElem?_eq_getElem (by omega)⟩
    rw [take_snoc hv, total_append, sumTo, sum_bals l n (by omega)]
    simp [totalOf, bals, List.getD_eq_getElem?_getD, hv]
theorem sum_all (l : List Val) : sumTo (bals l) l.length = totalOf l := by rw [sum_bals l _ (Nat.le_refl _), List.take_length]
theorem active_take_le {l : List Val} (h : ∀ v ∈ l, FitsV v) (k : Nat) : 0 ≤ activeOf (l.take k) ∧ activeOf (l.take k) ≤ activeOf l := by
  have h1 := active_le (l := l.take k) (fun v hv => h v (List.mem_of_mem_take hv))
  have h2 := active_le (l := l.drop k) (fun v hv => h v (List.mem_of_mem_drop hv))
  have h3 := active_append (l.take k) (l.drop k)
  rw [List.take_append_drop] at h3
  omega
theorem u64_app : ∃ i, Try.prog.info? 27 = some i ∧ i.zero = some (.int .u64 0) ∧ i.size = 1 ∧ i.bytes = 8 := by
  have h : (Try.prog.info? 27).map (fun i => (i.zero, i.size, i.bytes)) = some (some (.int .u64 0), 1, 8) := by kernel_rfl
  cases hi : Try.prog.info? 27 with
  | none => rw [hi] at h; cases h
  | some i =>
    rw [hi] at h
    simp at h
    exact ⟨i, rfl, h.1, h.2.1, h.2.2⟩
def numsOf (l : List Val) : List Value := (bals l).map (.int .u64)
theorem nums_append (l m : List Val) : numsOf (l ++ m) = numsOf l ++ numsOf m := by simp [numsOf, bals]
/-- An element's two first cells, in the walk's spelling. -/
theorem Lst.at2 {w : World} {S : Nat → Prop} {a : Option Addr} {l : List Val} (h : Lst w S a l) {i : Nat} {v : Val} (hi : l[i]? = some v) : ∃ b off, a = some ⟨b, off, none⟩ ∧ w.cell? ⟨b, off + i * 7, none⟩ = some (.int .u64 v.bal) ∧ w.cell? ⟨b, off + i * 7 + 1, none⟩ = some (.int .i64 v.st) ∧ w.rangeAt b (off + i * 7) v.row := by
  obtain ⟨b, off, h1, h2⟩ := h.at hi
  exact ⟨b, off, h1, h2 0 _ rfl, h2 1 _ rfl, h2⟩

set_option maxHeartbeats 800000 in
theorem balances_any (S : Nat → Prop) (a : Option Addr) (cp : Nat) (l : List Val) (w : World) (h : Lst w S a l) (hl : l.length ≤ 4096) :
    Calls Try.prog 28 #[.slice a l.length cp] w fun e w' => ∃ v, e = .returned v ∧ w'.ownsRow w.heap.size 27 1 v l.length (numsOf l) ∧ Below w.heap.size w w' := by
  have HL := Lib.hid h
  obtain ⟨n, hn⟩ : ∃ n, l.length = n := ⟨_, rfl⟩
  rw [hn] at hl ⊢
  have HN := Lib.hid hn
  obtain ⟨j0, hj0, hz0, hz1, hz2⟩ := u64_app
  clear h hn
  go_enter Try.func28, Try.ntmps28
  go_wp2
  go_loopw [3, 4] (fun s3 s4 wr => ∃ k : Nat, k ≤ n ∧ s4 = .int .i64 k ∧ Hid (wr.ownsRow w.heap.size 27 1 s3 k (numsOf (l.take k))) ∧ Below w.heap.size w wr) (fun _ s4 _ => n - (intOf s4).toNat)
  case atStart => exact ⟨0, by omega, rfl, Lib.hid (World.ownsRow_nil _ _ _ _), Below.refl _ _⟩
  case round =>
    obtain ⟨k, hk, rfl, HO, BR⟩ := hrel
    by_cases hlt : k < n
    · obtain ⟨v, hv⟩ : ∃ v, l[k]? = some v := ⟨_, List.getElem?_eq_getElem (by have := HN.out; omega)⟩
      obtain ⟨b, off, rfl, e0, _, _⟩ := (HL.out.below BR).at2 hv
      have HV := Lib.hid hv
      clear hv
      go_wp2_with (at_builtin; refine wpList_append_src _ rfl (.tmp 11) (.tmp 17) 60 rfl w.heap.size 27 j0 _ 1 8 Try.underlying60 hj0 hz0 hz1 hz2 rfl Nat.one_pos u3 k (numsOf (l.take k)) rfl (HO.out.alloc _) (some ⟨wr.heap.size, 0, none⟩) 1 1 [.int .u64 v.bal] rfl rfl (fun _ => ⟨_, rfl, cell_one_new wr _ _⟩) (by simp [Value.oneCell']) (by unfold maxLen; omega) (by omega) (by have := BR.size; simp; omega) ?_; intro v1 w1 ho hg hv1)
      have hZ : w1.ownsRow w.heap.size 27 1 v1 (k + 1) (numsOf (l.take (k + 1))) ∧ Below w.heap.size w w1 := by
        refine ⟨by rw [take_snoc HV.out, nums_append]; exact ho, ?_⟩
        have hsz := BR.size
        refine (BR.alloc hsz _).grown hg (by simp; omega) (fun q hq => ?_)
        rcases HO.out.2 with ⟨h1, _⟩ | ⟨g, cp', cur, h1, h2, _⟩
        · rw [h1] at hq; cases hq
        · rw [h1] at hq; simp [Value.ownBlock] at hq; omega
      have HZ := Lib.hid hZ
      clear ho hg hv1 hZ e0 HO BR
      go_wp2
      go_roundw
      case rel => exact ⟨k + 1, by omega, by go_num, Lib.hid HZ.out.1, HZ.out.2⟩
      case measure => simp [intOf]; omega
    · obtain rfl : k = n := by omega
      have hz : wr.ownsRow w.heap.size 27 1 u3 k (numsOf l) := by
        have := HO.out
        rwa [List.take_of_length_le (by rw [HN.out]; exact Nat.le_refl _)] at this
      have HZ := Lib.hid hz
      clear hlt hz
      have hlt : ¬ k < k := by omega
      go_wp2
      go_ret
      exact ⟨_, rfl, HZ.out, BR⟩
theorem num_at {w : World} {base g n cp : Nat} {l : List Val} (h : w.ownsRow base 27 1 (.slice (some ⟨g, 0, none⟩) n cp) n (numsOf l)) (hl : l.length = n) : ∀ i, i < n → w.cell? ⟨g, 0 + i, none⟩ = some (.int .u64 ((bals l).getD i 0)) := fun i hi => by
  have e : (numsOf l)[i]? = some (.int .u64 ((bals l).getD i 0)) := by
    simp only [numsOf, bals, List.map_map, List.getElem?_map, List.getD_eq_getElem?_getD, List.getElem?_eq_getElem (by omega : i < l.length)]
    rfl
  have := h.cells (g := g) rfl i _ e
  rwa [add_plain] at this
theorem bals_range {l : List Val} (h : ∀ v ∈ l, FitsV v) (i : Nat) : 0 ≤ (bals l).getD i 0 ∧ (bals l).getD i 0 ≤ 18446744073709551615 := by
  rw [List.getD_eq_getElem?_getD, bals, List.getElem?_map]
  cases hi : l[i]? with
  | none => simp
  | some v => exact (h v (List.mem_of_getElem? hi)).bal
/-- The reference's Add over the balances. -/
theorem refsum_any (v : Value) (base : Nat) (l : List Val) (w : World) (h : w.ownsRow base 27 1 v l.length (numsOf l)) (hl : l.length ≤ 4096) (hf : ∀ v ∈ l, FitsV v) :
    Calls Try.prog 27 #[v] w fun e w' => e = .returned (.tuple #[.int .u64 (if totalOf l ≤ 18446744073709551615 then totalOf l else 0), .bool (decide (totalOf l ≤ 18446744073709551615))]) ∧ ∃ m, w' = w.drewN m := by
  rcases h.2 with ⟨rfl, h0⟩ | ⟨g, cp, cur, rfl, _⟩
  · obtain rfl := List.eq_nil_of_length_eq_zero h0
    exact (refadd_none none 0 w).mono fun e w' ⟨he, hw⟩ => ⟨by rw [he]; simp [totalOf], 0, hw.symm⟩
  · have := refadd_row g 0 l.length cp (bals l) w (by omega) (num_at h rfl) (bals_range hf)
    refine this.mono fun e w' ⟨he, m, hm⟩ => ⟨?_, m, hm⟩
    rw [he, addQ, addOk, sum_all]
theorem fits_any (S : Nat → Prop) (a : Option Addr) (cp : Nat) (l : List Val) (w : World) (h : Lst w S a l) (hl : l.length ≤ 4096) (hf : ∀ v ∈ l, FitsV v) :
    Calls Try.prog 22 #[.slice a l.length cp] w fun e w' => e = .returned (.bool (decide (totalOf l ≤ 18446744073709551615))) ∧ Below w.heap.size w w' := by
  have H := Lib.hid (balances_any S a cp l w h hl)
  obtain ⟨r, hr⟩ : ∃ r, decide (totalOf l ≤ 18446744073709551615) = r := ⟨_, rfl⟩
  obtain ⟨q, hq⟩ : ∃ q, (if totalOf l ≤ 18446744073709551615 then totalOf l else 0) = q := ⟨_, rfl⟩
  have HS : Hid (∀ (v : Value) (base : Nat) (w : World), w.ownsRow base 27 1 v l.length (numsOf l) → Calls Try.prog 27 #[v] w fun e w' => e = .returned (.tuple #[.int .u64 q, .bool r]) ∧ ∃ m, w' = w.drewN m) := Lib.hid (fun v base w ho => by
    have := refsum_any v base l w ho hl hf
    rwa [hr, hq] at this)
  rw [hr]
  clear h hf hr hq
  go_enter Try.func22, Try.ntmps22
  go_wp2_with fail
  refine H.out.mono ?_
  rintro e w1 ⟨v, rfl, ho, hb⟩
  have HO := Lib.hid ho
  clear ho
  go_wp2_with fail
  refine (HS.out v _ w1 HO.out).mono ?_
  rintro e w2 ⟨rfl, m, rfl⟩
  have hb2 := below_drewN hb m
  go_wp2_with fail
  go_ret
  exact ⟨rfl, hb2⟩
theorem reftotal_any (S : Nat → Prop) (a : Option Addr) (cp : Nat) (l : List Val) (w : World) (h : Lst w S a l) (hl : l.length ≤ 4096) (hf : ∀ v ∈ l, FitsV v) (ht : totalOf l ≤ 18446744073709551615) :
    Calls Try.prog 16 #[.slice a l.length cp] w fun e w' => e = .returned (.int .u64 (totalOf l)) ∧ Below w.heap.size w w' := by
  have H := Lib.hid (balances_any S a cp l w h hl)
  obtain ⟨r, hr⟩ : ∃ r, decide (totalOf l ≤ 18446744073709551615) = r := ⟨_, rfl⟩
  obtain ⟨q, hq⟩ : ∃ q, (if totalOf l ≤ 18446744073709551615 then totalOf l else 0) = q := ⟨_, rfl⟩
  have HS : Hid (∀ (v : Value) (base : Nat) (w : World), w.ownsRow base 27 1 v l.length (numsOf l) → Calls Try.prog 27 #[v] w fun e w' => e = .returned (.tuple #[.int .u64 q, .bool r]) ∧ ∃ m, w' = w.drewN m) := Lib.hid (fun v base w ho => by
    have := refsum_any v base l w ho hl hf
    rwa [hr, hq] at this)
  rw [if_pos ht] at hq
  rw [hq]
  clear h hf hr hq
  clear ht
  go_enter Try.func16, Try.ntmps16
  go_wp2_with fail
  refine H.out.mono ?_
  rintro e w1 ⟨v, rfl, ho, hb⟩
  have HO := Lib.hid ho
  clear ho
  go_wp2_with fail
  refine (HS.out v _ w1 HO.out).mono ?_
  rintro e w2 ⟨rfl, m, rfl⟩
  have hb2 := below_drewN hb m
  go_wp2_with fail
  go_ret
  exact ⟨rfl, hb2⟩
set_option maxHeartbeats 800000 in
theorem refactive_any (S : Nat → Prop) (a : Option Addr) (cp : Nat) (l : List Val) (w : World) (h : Lst w S a l) (hl : l.length ≤ 4096) (hf : ∀ v ∈ l, FitsV v) (ht : activeOf l ≤ 18446744073709551615) :
    Calls Try.prog 14 #[.slice a l.length cp] w fun e w' => e = .returned (.int .u64 (activeOf l)) ∧ w = w' := by
  have HL := Lib.hid h
  have HF := Lib.hid hf
  obtain ⟨n, hn⟩ : ∃ n, l.length = n := ⟨_, rfl⟩
  rw [hn] at hl ⊢
  have HN := Lib.hid hn
  have HT := Lib.hid ht
  clear h hn hf ht
  go_enter Try.func14, Try.ntmps14
  go_wp2
  go_loop [3, 4] (fun s3 s4 => ∃ (k : Nat) (t : Int), k ≤ n ∧ s4 = .int .i64 k ∧ s3 = .int .u64 t ∧ Hid (t = activeOf (l.take k))) (fun _ s4 => n - (intOf s4).toNat)
  case atStart => exact ⟨0, 0, by omega, rfl, rfl, Lib.hid rfl⟩
  case round =>
    obtain ⟨k, t, hk, rfl, rfl, HQ⟩ := hrel
    by_cases hlt : k < n
    · obtain ⟨v, hv⟩ : ∃ v, l[k]? = some v := ⟨_, List.getElem?_eq_getElem (by have := HN.out; omega)⟩
      obtain ⟨b, off, rfl, e0, e1, _⟩ := HL.out.at2 hv
      have hs : activeOf (l.take (k + 1)) = t + liveBal v := by rw [take_snoc hv, active_append, HQ.out]; simp [activeOf]
      have hb := active_take_le HF.out (k + 1)
      have hb0 := active_take_le HF.out k
      rw [hs] at hb
      rw [← HQ.out] at hb0
      have hT := HT.out
      have hv0 := (HF.out v (List.mem_of_getElem? hv)).bal
      have HS := Lib.hid hs
      have HLV := Lib.hid (fun (w : World) => reflive_any v.st w)
      cases hlv : liveB v.st with
      | true =>
        have e2 : liveBal v = v.bal := by simp [liveBal, hlv]
        rw [e2] at hb HS
        rw [hlv] at HLV
        clear hs hv hlv e2
        go_wp2_with fail
        refine (HLV.out _).mono ?_
        rintro e w1 ⟨rfl, rfl⟩
        go_wp2
        go_round
        case rel => exact ⟨k + 1, t + v.bal, by omega, by go_num, rfl, Lib.hid HS.out.symm⟩
        case measure => simp [intOf]; omega
      | false =>
        have e2 : t + liveBal v = t := by simp [liveBal, hlv]
        rw [e2] at HS
        rw [hlv] at HLV
        clear hs hv hlv e2
        go_wp2_with fail
        refine (HLV.out _).mono ?_
        rintro e w1 ⟨rfl, rfl⟩
        go_wp2
        go_round
        case rel => exact ⟨k + 1, t, by omega, by go_num, rfl, Lib.hid HS.out.symm⟩
        case measure => simp [intOf]; omega
    · obtain rfl : k = n := by omega
      have hz : t = activeOf l := by
        have := HQ.out
        rwa [List.take_of_length_le (by rw [HN.out]; exact Nat.le_refl _)] at this
      have HZ := Lib.hid hz
      clear hlt hz
      have hlt : ¬ k < k := by omega
      go_wp2
      go_ret
      exact ⟨by rw [← HZ.out]; rfl, rfl⟩
theorem count_take_le (l : List Val) (k : Nat) (s : Int) : 0 ≤ countOf (l.take k) s ∧ countOf (l.take k) s ≤ k := by
  have h1 := count_bounds (l.take k) s
  have h2 : (l.take k).length ≤ k := by rw [List.length_take]; omega
  omega
set_option maxHeartbeats 800000 in
theorem refcount_any (S : Nat → Prop) (a : Option Addr) (cp : Nat) (s : Int) (l : List Val) (w : World) (h : Lst w S a l) (hl : l.length ≤ 4096) :
    Calls Try.prog 20 #[.slice a l.length cp, .int .i64 s] w fun e w' => e = .returned (.int .i64 (countOf l s)) ∧ w = w' := by
  have HL := Lib.hid h
  obtain ⟨n, hn⟩ : ∃ n, l.length = n := ⟨_, rfl⟩
  rw [hn] at hl ⊢
  have HN := Lib.hid hn
  clear h hn
  go_enter Try.func20, Try.ntmps20
  go_wp2
  go_loop [5, 6] (fun s5 s6 => ∃ (k : Nat) (t : Int), k ≤ n ∧ s6 = .int .i64 k ∧ s5 = .int .i64 t ∧ Hid (t = countOf (l.take k) s)) (fun _ s6 => n - (intOf s6).toNat)
  case atStart => exact ⟨0, 0, by omega, rfl, rfl, Lib.hid rfl⟩
  case round =>
    obtain ⟨k, t, hk, rfl, rfl, HQ⟩ := hrel
    by_cases hlt : k < n
    · obtain ⟨v, hv⟩ : ∃ v, l[k]? = some v := ⟨_, List.getElem?_eq_getElem (by have := HN.out; omega)⟩
      obtain ⟨b, off, rfl, e0, e1, _⟩ := HL.out.at2 hv
      have hs : countOf (l.take (k + 1)) s = t + (if v.st = s then 1 else 0) := by rw [take_snoc hv, count_append, HQ.out]; simp [countOf]
      have hb0 := count_take_le l k s
      rw [← HQ.out] at hb0
      have HS := Lib.hid hs
      clear hs hv
      by_cases he : v.st = s
      · have hes : (v.st == s) = true := by simpa using he
        rw [if_pos he] at HS
        clear he
        go_wp2
        go_round
        case rel => exact ⟨k + 1, t + 1, by omega, by go_num, rfl, Lib.hid HS.out.symm⟩
        case measure => simp [intOf]; omega
      · have hes : (v.st == s) = false := by simpa using he
        rw [if_neg he, Int.add_zero] at HS
        clear he
        go_wp2
        go_round
        case rel => exact ⟨k + 1, t, by omega, by go_num, rfl, Lib.hid HS.out.symm⟩
        case measure => simp [intOf]; omega
    · obtain rfl : k = n := by omega
      have hz : t = countOf l s := by
        have := HQ.out
        rwa [List.take_of_length_le (by rw [HN.out]; exact Nat.le_refl _)] at this
      have HZ := Lib.hid hz
      clear hlt hz
      have hlt : ¬ k < k := by omega
      go_wp2
      go_ret
      exact ⟨by rw [← HZ.out]; rfl, rfl⟩
theorem put_facts {w W w1 : World} {l : List Val} {i : Nat} {old v : Val} {u : Value} (hil : i < l.length) (hi : l[i]? = some old) (ho : w1.ownsRow (w.heap.size + 1) 29 7 u (0 + l.length) ([] ++ flat l)) (hg : W.grownBy w1 (Value.slice (some ⟨w.heap.size + 1, 0, none⟩) 0 0).ownBlock)
    (hb : Below w.heap.size w W) (hE : Blk W w.heap.size 29 (cellsV v)) :
    ∃ g cu, w.heap.size + 1 ≤ g ∧ u = .slice (some ⟨g, 0, none⟩) l.length cu ∧ Hid (w1.ownsRow 0 29 7 (.slice (some ⟨g, 0, none⟩) l.length cu) l.length (flat l)) ∧ Hid (Blk w1 w.heap.size 29 (cellsV v)) ∧
      Hid ((w1.setCells g (i * 7) (cellsV v).toList).ownsRow w.heap.size 29 7 (.slice (some ⟨g, 0, none⟩) l.length cu) l.length (flat (l.set i v)) ∧ Below w.heap.size w (w1.setCells g (i * 7) (cellsV v).toList)) ∧ Hid (w1.there g (i * 7) 7) := by
  simp only [Nat.zero_add, List.nil_append] at ho
  rcases ho.2 with ⟨_, h0⟩ | ⟨g, cu, cur, rfl, h1, _⟩
  · omega
  · have ho0 := owns_base ho (Nat.zero_le _)
    obtain ⟨hs, hth⟩ := owns_set ho0 hi v
    have hb1 : Below w.heap.size w w1 := below_only hb (g := w.heap.size + 1) hg hb.size (by omega)
    have hb2 : Below w.heap.size w (w1.setCells g (i * 7) (cellsV v).toList) := by
      have k : Kept (fun i => i = g) w1 (w1.setCells g (i * 7) (cellsV v).toList) := Kept.setCells _ _ _ (Kept.refl _ _) (.inl rfl)
      exact k.below hb1 (fun j hj => by omega) hb1.size
    refine ⟨g, cu, h1, rfl, Lib.hid ho0, Lib.hid (hE.grown hg (by simp [Value.ownBlock])), Lib.hid ⟨?_, hb2⟩, Lib.hid hth⟩
    refine ⟨hs.1, hs.2.imp id ?_⟩
    rintro ⟨g', cp', cur', h3, h4⟩
    have h5 := h3
    injection h5 with h5 _ _; injection h5 with h5; injection h5 with h5
    subst h5
    exact ⟨g, cp', cur', h3, by omega, h4.2⟩
set_option maxHeartbeats 800000 in
theorem put_any (S : Nat → Prop) (a : Option Addr) (cp i : Nat) (old v : Val) (l : List Val) (w : World) (h : Lst w S a l) (hl : l.length ≤ 4096) (hi : l[i]? = some old) :
    Calls Try.prog 25 #[.slice a l.length cp, .int .i64 i, .agg (cellsV v)] w fun e w' => ∃ u, e = .returned u ∧ w'.ownsRow w.heap.size 29 7 u l.length (flat (l.set i v)) ∧ Below w.heap.size w w' := by
  have HL := Lib.hid h
  have HI := Lib.hid hi
  have hil := (List.getElem?_eq_some_iff.1 hi).1
  obtain ⟨j0, hj0, hz, hs7, hby⟩ := val_app
  have HLEN := Lib.hid (flat_len l)
  have HK : Hid (Below w.heap.size w (w.alloc (.cells (cellsV v) 29))) := Lib.hid ((Below.refl _ _).alloc (Nat.le_refl _) _)
  have HE : Hid (Blk (w.alloc (.cells (cellsV v) 29)) w.heap.size 29 (cellsV v)) := Lib.hid (Blk.new _ _ _)
  have hsz : (w.alloc (.cells (cellsV v) 29)).heap.size = w.heap.size + 1 := by simp
  have HSZ := Lib.hid hsz
  have HEA : Hid (Blk ((w.alloc (.cells (cellsV v) 29)).alloc (.cells #[] 29)) w.heap.size 29 (cellsV v)) := Lib.hid (Blk.alloc HE.out _)
  have HN : Hid (Blk ((w.alloc (.cells (cellsV v) 29)).alloc (.cells #[] 29)) (w.heap.size + 1) 29 #[]) := Lib.hid (by have := Blk.new (w.alloc (.cells (cellsV v) 29)) 29 #[]; simpa using this)
  have HK2 : Hid (Below w.heap.size w ((w.alloc (.cells (cellsV v) 29)).alloc (.cells #[] 29))) := Lib.hid (((Below.refl _ _).alloc (Nat.le_refl _) _).alloc (by simp) _)
  have hi1 : ¬ (i : Int) < 0 := by omega
  have hi2 : ¬ (l.length : Int) ≤ (i : Int) := by omega
  have hi3 : (i : Int) < (l.length : Int) := by omega
  clear h hi hsz
  go_enter Try.func25, Try.ntmps25
  go_wp2_with (first | (at_builtin; refine wpList_append_src _ rfl (.tmp 8) (.tmp 9) 26 rfl (w.heap.size + 1) 29 j0 _ 7 56 Try.underlying26 hj0 hz hs7 hby (cellsV_size _) (by omega) (.slice (some ⟨w.heap.size + 1, 0, none⟩) 0 0) 0 [] rfl (owns_empty HN.out (Nat.le_refl _)) a l.length cp (flat l) rfl (by rw [HLEN.out]) (fun h0 => lst_src HL.out HK2.out h0) flat_mem (by unfold maxLen; omega) (by omega) (by simp) ?_; intro u w1 ho hg hv; obtain ⟨g, cu, hg1, rfl, HO, HE1, HZ, hth⟩ := put_facts hil HI.out ho hg HK2.out HEA.out; clear ho hg hv) | (refine wpList_load_val rfl 29 _ rfl w.heap.size 0 rfl v _ HE1.out.range Try.underlying29 rfl infoV ?_) | (refine wpList_store_mid rfl 29 _ _ rfl g (i * 7) (cellsV v) rfl rfl hth.out infoV (cellsV_one v) ?_))
  go_ret
  exact ⟨_, rfl, HZ.out⟩
end Go.Proofs.Ytcmlkcmoailhjaa
