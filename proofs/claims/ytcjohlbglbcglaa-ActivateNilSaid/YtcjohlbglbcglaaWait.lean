/- Wait. -/
import Derived.Test.YtcjohlbglbcglaaNow
import Derived.Test.YtcjohlbglbcglaaAllInt
namespace Go.Proofs.Ytcjohlbglbcglaa
open Go Go.RowKit
set_option linter.unusedVariables false
set_option linter.unusedSimpArgs false
set_option maxRecDepth 100000

theorem bfold_amt {lim : Int} (hl : Amt lim) : ∀ (X : List Int) (p : Nat × Int), Amt p.2 → (∀ x ∈ X, Amt x) → Amt (bfold lim p X).2
  | [], p, hp, _ => hp
  | y :: r, p, hp, hX => bfold_amt hl r (bstep lim p y) (bstep_amt hp (hX y (by simp)) hl) (fun x hx => hX x (by simp [hx]))
theorem bnd_snoc {lim x : Int} (X : List Int) : bnd lim (X ++ [x]) = (bstep lim (bfold lim (0, 0) X) x).1 := by rw [bnd, bfold_snoc (0, 0)]
section
variable {w : World} {b : Nat} {go : Option Nat} {sz : Nat} {L Lw : List Int} {a : Option Addr} {cap : Nat} {lim x : Int}
theorem wait_nil (lim x : Int) (v : Value) (w : World) : Calls Try.prog 17 #[.pointer none, .int .u64 lim, v, .int .u64 x] w fun e w' => e = .returned (.int .i64 0) ∧ w = w' := by
  go_enter Try.func17, Try.ntmps17
  go_wp2
  go_ret
  exact ⟨rfl, rfl⟩
set_option maxHeartbeats 1000000 in
theorem wait_any (hr : RingAt 51 3 1 w b go sz L.length (L.map (Value.int .i64))) (hu : UAt w (fun _ => False) a Lw) (hL : Lw.length ≤ 9223372036854775807) (hA : Amts Lw) (hl : Amt lim) (hx : Amt x) :
    Calls Try.prog 17 #[.pointer (some ⟨b, 0, none⟩), .int .u64 lim, .slice a Lw.length cap, .int .u64 x] w fun e w' => e = .returned (.int .i64 (bnd lim (L.map (wOf Lw) ++ [x]) : Int)) ∧ Below w.heap.size w w' := by
  have hLL := hr.size_le
  have HR := Lib.hid hr
  have HU := Lib.hid hu
  have HA := Lib.hid hA
  have HL := Lib.hid hL
  have HAl := Lib.hid (And.intro hl hx)
  obtain ⟨n, hn⟩ : ∃ n, L.length = n := ⟨_, rfl⟩
  have HN := Lib.hid hn
  rw [hn] at hLL
  clear hr hu hA hl hx hL hn
  go_enter Try.func17, Try.ntmps17
  go_wp2_with fail
  refine (boundaries_any lim _).mono ?_
  rintro e w1 ⟨rfl, hb1, bl1, hz1⟩
  have HB1 := Lib.hid (And.intro hb1 (And.intro bl1 hz1))
  have HR1 := Lib.hid (HR.out.kept (S := fun _ => False) (Kept.of_below bl1) (fun _ _ h => h))
  clear hb1 bl1 hz1
  unfold bndF
  go_wp2_with fail
  refine (ri_all_any b sz L.length go _ w1 HR1.out).mono ?_
  rintro e w2 ⟨rfl, hB2, bl2⟩
  have HB2 : Hid (Blk w2 w1.heap.size 3 (L.map (Value.int .i64)).toArray) := Lib.hid hB2
  have HB3 : Hid (Bnd w2 w.heap.size lim (0, 0)) := Lib.hid (HB1.out.1.kept (S := fun _ => False) (Kept.of_below bl2) (fun _ _ _ h => h))
  have HBl : Hid (Below w.heap.size w w2 ∧ w.heap.size + 2 < w1.heap.size) := Lib.hid ⟨HB1.out.2.1.trans (bl2.mono (by have := HB1.out.2.2; omega)), by have := HB1.out.2.2; omega⟩
  rw [HN.out]
  generalize w1.heap.size = g at *
  clear hB2 bl2 HB1 HR1 HR
  go_wp2_with fail
  go_loopw [19] (fun s19 wr => ∃ k : Nat, k ≤ n ∧ s19 = .int .i64 k ∧ Hid (Bnd wr w.heap.size lim (bfold lim (0, 0) ((L.map (wOf Lw)).take k))) ∧ Hid (Kept (fun i => i = w.heap.size + 1 ∨ i = w.heap.size + 2) w2 wr)) (fun s19 _ => n - (intOf s19).toNat)
  case atStart => exact ⟨0, by omega, rfl, HB3, Lib.hid (Kept.refl _ _)⟩
  case round =>
    obtain ⟨k, hk, rfl, HBK, HKK⟩ := hrel
    have hamt : ∀ y ∈ (L.map (wOf Lw)).take k, Amt y := fun y hy => by
      obtain ⟨z, _, rfl⟩ := List.mem_map.1 (List.mem_of_mem_take hy)
      exact wOf_amt HA.out z
    have hpa := bfold_amt HAl.out.1 _ (0, 0) (⟨Int.le_refl 0, show (0 : Int) ≤ 18446744073709551615 by decide⟩) hamt
    have hpk : (bfold lim (0, 0) ((L.map (wOf Lw)).take k)).1 ≤ 1000000000 := by
      have h1 := bfold_le (lim := lim) ((L.map (wOf Lw)).take k) (0, 0)
      have h2 := List.length_take_le k (L.map (wOf Lw))
      simp at h1
      omega
    have hbel : Below w.heap.size w wr := Kept.below HBl.out.1 HKK.out (fun i hi => by omega) HBl.out.1.size
    by_cases hlt : k < n
    · have hcell : wr.cell? ⟨g, k, none⟩ = some (.int .i64 (L.getD k 0)) := by
        have h1 := (HB2.out.kept HKK.out (by have := HBl.out.2; omega)).cell k
        rw [h1, List.getElem?_toArray, List.getElem?_map, List.getD_eq_getElem?_getD, List.getElem?_eq_getElem (by rw [HN.out]; exact hlt)]
        rfl
      have HW := Lib.hid (aweight_any (cap := cap) (L.getD k 0) (HU.out.below hbel) HL.out HA.out)
      have HC := Lib.hid (fun (w' : World) (h' : Bnd w' w.heap.size lim (bfold lim (0, 0) ((L.map (wOf Lw)).take k))) => bnd_any w' h' hpa (wOf_amt HA.out (L.getD k 0)) HAl.out.1 hpk)
      have HE : Hid (bfold lim (0, 0) ((L.map (wOf Lw)).take (k + 1)) = bstep lim (bfold lim (0, 0) ((L.map (wOf Lw)).take k)) (wOf Lw (L.getD k 0))) := Lib.hid (by
        have hk' : k < L.length := by rw [HN.out]; exact hlt
        rw [List.take_succ_eq_append_getElem (by simpa using hk'), bfold_snoc (0, 0), List.getElem_map, List.getD_eq_getElem?_getD, List.getElem?_eq_getElem hk']
        rfl)
      generalize bfold lim (0, 0) ((L.map (wOf Lw)).take k) = p at *
      generalize hp' : bfold lim (0, 0) ((L.map (wOf Lw)).take (k + 1)) = p' at HE
      have HP' := Lib.hid hp'
      clear hp'
      generalize L.getD k 0 = y at *
      generalize hom : wOf Lw y = om at *
      clear hamt hpa hpk hom
      go_wp2_with fail
      refine HW.out.mono ?_
      rintro e w3 ⟨rfl, b3⟩
      have HBK3 := Lib.hid (HBK.out.kept (S := fun _ => False) (Kept.of_below b3) (fun _ _ _ h => h))
      have HKK3 := Lib.hid (HKK.out.trans (Kept.of_below (S := fun i => i = w.heap.size + 1 ∨ i = w.heap.size + 2) b3) (fun _ _ h => h))
      clear b3 HW HBK HKK hcell hbel
      go_wp2_with fail
      refine (HC.out w3 HBK3.out).mono ?_
      rintro e w4 ⟨rfl, hb4, hk4⟩
      have HBK4 : Hid (Bnd w4 w.heap.size lim p') := Lib.hid (by rw [HE.out]; exact hb4)
      have HKK4 := Lib.hid (HKK3.out.trans hk4 (fun _ _ h => h))
      clear hb4 hk4 HBK3 HKK3 HC HE
      go_wp2
      go_roundw
      case rel => exact ⟨k + 1, by omega, by go_num, by rw [HP'.out]; exact HBK4, HKK4⟩
      case measure => simp [intOf]; omega
    · obtain rfl : k = n := by omega
      have hT : (L.map (wOf Lw)).take k = L.map (wOf Lw) := List.take_of_length_le (by rw [List.length_map, HN.out]; exact Nat.le_refl _)
      rw [hT] at hpa hpk HBK
      have HC := Lib.hid (bnd_any wr HBK.out hpa HAl.out.2 HAl.out.1 hpk)
      rw [← bnd_snoc] at HC
      clear hamt hT hlt hpa hpk
      have hlt : ¬ k < k := by omega
      have HBE := Lib.hid hbel
      go_wp2_with fail
      refine HC.out.mono ?_
      rintro e w4 ⟨rfl, -, hk4⟩
      have HKE := Lib.hid (Kept.below HBE.out hk4 (fun i hi => by omega) HBE.out.size)
      clear hk4 HC
      go_wp2
      go_ret
      exact ⟨rfl, HKE.out⟩
end
end Go.Proofs.Ytcjohlbglbcglaa
