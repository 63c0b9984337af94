/- Weight, and the reference's. -/
import Derived.Test.YtcjohlbglbcglaaRow
import Derived.Test.YtcjohlbglbcglaaAdd
import Derived.Test.YtcjohlbglbcglaaAmts
namespace Go.Proofs.Ytcjohlbglbcglaa
open Go Go.RowKit
set_option linter.unusedVariables false
set_option linter.unusedSimpArgs false
set_option maxRecDepth 100000

/-- The weights of the first k indices, then zeros. -/
def wl (om : Int → Int) (I : List Int) (k : Nat) : List Int := (List.range I.length).map fun i => if i < k then om (I.getD i 0) else 0
section
variable {om : Int → Int} {I : List Int}
theorem wl_len (k : Nat) : (wl om I k).length = I.length := by simp [wl]
theorem wl_zero : wl om I 0 = List.replicate I.length 0 := by
  refine List.ext_getElem (by simp [wl]) fun i h1 h2 => ?_
  simp [wl]
theorem wl_all : wl om I I.length = I.map om := by
  refine List.ext_getElem (by simp [wl]) fun i h1 h2 => ?_
  simp [wl] at h1 ⊢
  simp [h1]
theorem wl_set {k : Nat} (hk : k < I.length) : (wl om I k).set k (om (I.getD k 0)) = wl om I (k + 1) := by
  refine List.ext_getElem (by simp [wl]) fun i h1 h2 => ?_
  rw [List.getElem_set]
  simp only [wl, List.getElem_map, List.getElem_range]
  by_cases h : k = i
  · subst h; simp
  · rw [if_neg h]
    by_cases h3 : i < k
    · rw [if_pos h3, if_pos (by omega)]
    · rw [if_neg h3, if_neg (by omega)]
theorem amts_map (h : ∀ i, 0 ≤ om i ∧ om i ≤ 18446744073709551615) : ∀ j, 0 ≤ (I.map om).getD j 0 ∧ (I.map om).getD j 0 ≤ 18446744073709551615 := fun j => by
  rw [List.getD_eq_getElem?_getD, List.getElem?_map]
  cases I[j]? with
  | none => exact ⟨Int.le_refl 0, show (0 : Int) ≤ 18446744073709551615 by decide⟩
  | some x => exact h x
end
theorem owns_slice' {w : World} {base n size : Nat} {e : TypeId} {v : Value} {xs : List Value} (h : w.ownsRow base e size v n xs) : ∃ a cp, v = .slice a n cp := by
  rcases h.2 with ⟨rfl, rfl⟩ | ⟨g, cp, cur, rfl, _⟩
  · exact ⟨none, 0, rfl⟩
  · exact ⟨_, cp, rfl⟩
def wrow (om : Int → Int) (I : List Int) (k : Nat) : List Value := ((I.take k).map om).map (Value.int .u64)
theorem wrow_succ (om : Int → Int) {I : List Int} {k : Nat} (h : k < I.length) : wrow om I (k + 1) = wrow om I k ++ [.int .u64 (om (I.getD k 0))] := by
  rw [wrow, wrow, List.take_succ_eq_append_getElem h, List.map_append, List.map_append, List.getD_eq_getElem?_getD, List.getElem?_eq_getElem h]
  rfl
def WeightPost (w : World) (om : Int → Int) (I : List Int) (e : Ending) (w' : World) : Prop :=
  e = .returned (.tuple #[.int .u64 (addQ (I.map om) I.length), .bool (addOk (I.map om) I.length)]) ∧ Below w.heap.size w w'
section
variable {w : World} {S S2 : Nat → Prop} {a ia : Option Addr} {L I : List Int} {cap ic : Nat}
set_option maxHeartbeats 800000 in
theorem wsum_any (hu : UAt w S a L) (hL : L.length ≤ 9223372036854775807) (hA : Amts L) (hi : IntsAt w S2 ia I) (hn : I.length ≤ 100000) :
    Calls Try.prog 35 #[.slice a L.length cap, .slice ia I.length ic] w (WeightPost w (wOf L) I) := by
  obtain ⟨n, hn'⟩ : ∃ n, I.length = n := ⟨_, rfl⟩
  have hmk := fun w => run_make_amounts n (by omega) w
  have HB : Hid (BlkU (w.alloc (.cells (cellsU (List.replicate n 0)) 23)) w.heap.size (wl (wOf L) I 0)) := Lib.hid (by rw [wl_zero, hn']; exact Blk.new _ _ _)
  have HW : Hid (Below w.heap.size w (w.alloc (.cells (cellsU (List.replicate n 0)) 23))) := Lib.hid ((Below.refl _ _).alloc (Nat.le_refl _) _)
  have HU := Lib.hid hu
  have HL := Lib.hid hL
  have HA := Lib.hid hA
  have HI := Lib.hid hi
  have HN := Lib.hid hn'
  rw [hn'] at hn ⊢
  clear hu hL hA hi hn'
  go_enter Try.func35, Try.ntmps35
  go_wp2
  clear hmk
  generalize hz : w.heap.size = z at *
  have HZ := Lib.hid hz
  clear hz
  go_loopw [14] (fun s14 wr => ∃ k : Nat, k ≤ n ∧ s14 = .int .i64 k ∧ Hid (BlkU wr z (wl (wOf L) I k)) ∧ Hid (Below z w wr)) (fun s14 _ => n - (intOf s14).toNat)
  case atStart => exact ⟨0, by omega, rfl, HB, HW⟩
  case round =>
    obtain ⟨k, hk, rfl, HBK, HWK⟩ := hrel
    clear HB HW
    by_cases hlt : k < n
    · obtain ⟨b, off, rfl, _, hb, hc⟩ := HI.out (by rw [HN.out]; omega)
      have hcell : wr.cell? ⟨b, off + k, none⟩ = some (.int .i64 (I.getD k 0)) := (HWK.out.cell (p := ⟨b, off + k, none⟩) (by rw [← HZ.out]; exact hb)).trans (hc k (by rw [HN.out]; exact hlt))
      have hf := HBK.out.frozen k
      have hcz := HBK.out.cell (i := k) (by rw [wl_len, HN.out]; exact hlt)
      have HB2 : Hid (BlkU (wr.setCell ⟨z, k, none⟩ (.int .u64 (wOf L (I.getD k 0)))) z (wl (wOf L) I (k + 1))) := Lib.hid (by
        have := HBK.out.set k (wOf L (I.getD k 0))
        rwa [wl_set (by rw [HN.out]; exact hlt)] at this)
      have HW2 : Hid (Below z w (wr.setCell ⟨z, k, none⟩ (.int .u64 (wOf L (I.getD k 0))))) := Lib.hid (HWK.out.setCell (Nat.le_refl _) _)
      have HUW : Hid (Calls Try.prog 40 #[.slice a L.length cap, .int .i64 (I.getD k 0)] wr fun e w' => e = .returned (.int .u64 (wOf L (I.getD k 0))) ∧ wr = w') := Lib.hid (weight_any cap _ wr (HU.out.below (by rw [HZ.out]; exact HWK.out)) HL.out)
      generalize I.getD k 0 = x at *
      generalize wOf L x = y at *
      generalize (wl (wOf L) I k).getD k 0 = u at *
      clear hc hb HBK HWK
      go_wp2_with fail
      refine HUW.out.mono ?_
      rintro e w' ⟨rfl, rfl⟩
      clear HUW
      go_wp2
      go_roundw
      case rel => exact ⟨k + 1, by omega, by go_num, HB2, HW2⟩
      case measure => simp [intOf]; omega
    · obtain rfl : k = n := by omega
      clear hlt
      have hlt : ¬ k < k := by omega
      have HAd := Lib.hid (add_row z 0 k k (I.map (wOf L)) wr (by omega) (fun i hi => by
        rw [Nat.zero_add]
        have := HBK.out.cell (i := i) (by rw [wl_len, HN.out]; exact hi)
        rw [← wl_all, HN.out]; exact this) (amts_map (fun i => wOf_amt HA.out i)))
      clear HBK
      go_wp2_with fail
      refine HAd.out.mono ?_
      rintro e w' ⟨rfl, rfl⟩
      clear HAd
      go_wp2
      go_ret2
      exact ⟨by rw [HN.out]; rfl, by rw [HZ.out]; exact HWK.out⟩
set_option maxHeartbeats 1600000 in
theorem rwsum_any (hu : UAt w S a L) (hL : L.length ≤ 9223372036854775807) (hA : Amts L) (hi : IntsAt w S2 ia I) (hn : I.length ≤ 100000) :
    Calls Try.prog 16 #[.slice a L.length cap, .slice ia I.length ic] w (WeightPost w (wOf L) I) := by
  obtain ⟨j0, hj0, hz0, hz1, hz2⟩ := u64_info
  obtain ⟨n, hn'⟩ : ∃ n, I.length = n := ⟨_, rfl⟩
  have HU := Lib.hid hu
  have HL := Lib.hid hL
  have HA := Lib.hid hA
  have HI := Lib.hid hi
  have HN := Lib.hid hn'
  rw [hn'] at hn ⊢
  clear hu hL hA hi hn'
  go_enter Try.func16, Try.ntmps16
  go_wp2
  generalize hz : w.heap.size = z at *
  have HZ := Lib.hid hz
  clear hz
  go_loopw [6, 7] (fun s6 s7 wr => ∃ (k : Nat) (q : Option Addr) (c : Nat), k ≤ n ∧ s7 = .int .i64 k ∧ s6 = .slice q k c ∧ Hid (wr.ownsRow z 23 1 (.slice q k c) k (wrow (wOf L) I k)) ∧ Hid (Below z w wr)) (fun _ s7 _ => n - (intOf s7).toNat)
  case atStart => exact ⟨0, none, 0, by omega, rfl, rfl, Lib.hid (World.ownsRow_nil _ _ _ _), Lib.hid (Below.refl _ _)⟩
  case round =>
    obtain ⟨k, q, c, hk, rfl, rfl, HO, HWK⟩ := hrel
    by_cases hlt : k < n
    · obtain ⟨b, off, rfl, _, hb, hc⟩ := HI.out (by rw [HN.out]; omega)
      have hcell : wr.cell? ⟨b, off + k, none⟩ = some (.int .i64 (I.getD k 0)) := (HWK.out.cell (p := ⟨b, off + k, none⟩) (by rw [← HZ.out]; exact hb)).trans (hc k (by rw [HN.out]; exact hlt))
      have HUW : Hid (Calls Try.prog 27 #[.slice a L.length cap, .int .i64 (I.getD k 0)] wr fun e w' => e = .returned (.int .u64 (wOf L (I.getD k 0))) ∧ wr = w') := Lib.hid (of_any cap _ wr (HU.out.below (by rw [HZ.out]; exact HWK.out)) HL.out)
      have hsn := wrow_succ (wOf L) (show k < I.length by rw [HN.out]; exact hlt)
      have HSN := Lib.hid hsn
      generalize I.getD k 0 = x at *
      generalize wOf L x = y at *
      have HO1 : Hid ((wr.alloc (.cells #[.int .u64 y] 23)).ownsRow z 23 1 (.slice q k c) k (wrow (wOf L) I k)) := Lib.hid (HO.out.alloc _)
      have HS1 : Hid (z ≤ wr.heap.size) := Lib.hid (by have := HWK.out.size; rw [← HZ.out]; exact this)
      clear hc hb hsn HO
      go_wp2_with fail
      refine HUW.out.mono ?_
      rintro e w' ⟨rfl, rfl⟩
      clear HUW
      go_wp2_with (at_builtin; refine wpList_append_own _ rfl _ _ 24 rfl z 23 j0 (.int .u64 0) 1 8 Try.underlying24 hj0 hz0 hz1 hz2 rfl (by decide) _ _ _ rfl HO1.out ⟨wr.heap.size, 0, none⟩ 1 1 [.int .u64 y] rfl rfl ?c1 ?c2 ?c3 ?c4 ?c5 ?_)
      case c1 =>
        intro j u hj
        match j, hj with
        | 0, hj => simp at hj; subst hj; simp [Addr.add]
      case c2 => intro u hu; simp at hu; subst hu; rfl
      case c3 => unfold maxLen; omega
      case c4 => omega
      case c5 => have := HS1.out; simp; omega
      intro v' w2 hown2 hgrow _
      have HO2 : Hid (w2.ownsRow z 23 1 v' (k + 1) (wrow (wOf L) I (k + 1))) := Lib.hid (by rw [HSN.out]; exact hown2)
      have HW2 : Hid (Below z w w2) := Lib.hid ((HWK.out.alloc HS1.out _).grown hgrow (by have := HS1.out; simp; omega) (fun i hi => (HO1.out.lt i hi).1))
      obtain ⟨q2, c2, rfl⟩ := owns_slice' hown2
      clear hown2 hgrow HO1 HSN HWK HS1
      go_wp2
      go_roundw
      case rel => exact ⟨k + 1, q2, c2, by omega, by go_num, rfl, HO2, HW2⟩
      case measure => simp [intOf]; omega
    · obtain rfl : k = n := by omega
      clear hlt
      have hlt : ¬ k < k := by omega
      have HAd : Hid (Calls Try.prog 28 #[.slice q k c] wr fun e w' => e = .returned (.tuple #[.int .u64 (addQ (I.map (wOf L)) k), .bool (addOk (I.map (wOf L)) k)]) ∧ ∃ m, w' = wr.drewN m) := Lib.hid (by
        have ho := HO.out
        rw [wrow, List.take_of_length_le (by rw [HN.out]; exact Nat.le_refl _)] at ho
        rcases ho.2 with ⟨e, e2⟩ | ⟨g, cp, cur, e, _⟩
        · injection e with e1 e2 e3
          subst e1 e2 e3
          exact (refadd_none none 0 wr).mono fun e w' ⟨he, hw⟩ => ⟨by rw [he]; rfl, 0, hw.symm⟩
        · injection e with e1 e2 e3
          subst e1
          refine refadd_row g 0 k c (I.map (wOf L)) wr (by omega) (fun i hi => ?_) (amts_map (fun i => wOf_amt HA.out i))
          have := ho.cells (g := g) rfl i (.int .u64 ((I.map (wOf L)).getD i 0)) (by rw [List.getElem?_map, List.getD_eq_getElem?_getD, List.getElem?_eq_getElem (by rw [List.length_map, HN.out]; exact hi)]; rfl)
          rwa [add_plain] at this)
      clear HO
      go_wp2_with fail
      refine HAd.out.mono ?_
      rintro e w' ⟨rfl, m, rfl⟩
      clear HAd
      go_wp2
      go_ret2
      exact ⟨by rw [HN.out]; rfl, by rw [HZ.out]; exact below_drewN HWK.out m⟩
end
end Go.Proofs.Ytcjohlbglbcglaa
