/- Bytes in memory; the reader's closure; the reference's value. -/
import Derived.Test.YtniehmlklbggdaaDoorInv
import Derived.Test.YtniehmlklbggdaaDoorKept
import Derived.Laws.Bits64b
namespace Go.Proofs.YtniehmlklbggdaaDoor
open Go Go.RowKit
set_option linter.unusedVariables false
set_option linter.unusedSimpArgs false
set_option maxRecDepth 100000

/-- A slice of bytes that reads as L; its block is not one of S. -/
def Bys (w : World) (S : Nat → Prop) (a : Option Addr) (L : List Int) : Prop :=
  AllB L ∧ (0 < L.length → ∃ b off, a = some ⟨b, off, none⟩ ∧ ¬ S b ∧ b < w.heap.size ∧ ∀ j, j < L.length → w.cell? ⟨b, off + j, none⟩ = some (.int .u8 (L.getD j 0)))
section
variable {w w' : World} {S T : Nat → Prop} {a : Option Addr} {L : List Int}
theorem Bys.nil (w : World) (S : Nat → Prop) (a : Option Addr) : Bys w S a [] := ⟨fun x hx => (by cases hx), fun h => (by simp at h)⟩
theorem Bys.kept (h : Bys w S a L) (k : Kept T w w') (hT : ∀ i, i < w.heap.size → T i → S i) : Bys w' S a L := ⟨h.1, fun hl => by
  obtain ⟨b, off, e, hn, hb, hc⟩ := h.2 hl
  exact ⟨b, off, e, hn, Nat.lt_of_lt_of_le hb k.size, fun j hj => k.cell (fun ht => hn (hT _ hb ht)) (hc j hj)⟩⟩
theorem Bys.other (h : Bys w S a L) (hT : ∀ i, i < w.heap.size → T i → S i) : Bys w T a L := ⟨h.1, fun hl => by
  obtain ⟨b, off, e, hn, hb, hc⟩ := h.2 hl
  exact ⟨b, off, e, fun ht => hn (hT _ hb ht), hb, hc⟩⟩
theorem Bys.below (h : Bys w S a L) (hb : Below w.heap.size w w') : Bys w' S a L := ⟨h.1, fun hl => by
  obtain ⟨b, off, e, hn, hb2, hc⟩ := h.2 hl
  exact ⟨b, off, e, hn, Nat.lt_of_lt_of_le hb2 hb.size, fun j hj => (hb.cell (p := ⟨b, off + j, none⟩) hb2).trans (hc j hj)⟩⟩
theorem Bys.drewN (h : Bys w S a L) (n : Nat) : Bys (w.drewN n) S a L := h
theorem Bys.at_ (h : Bys w S a L) {j : Nat} (hj : j < L.length) : ∃ b off, a = some ⟨b, off, none⟩ ∧ w.cell? ⟨b, off + j, none⟩ = some (.int .u8 (L.getD j 0)) := by
  obtain ⟨b, off, e, _, _, hc⟩ := h.2 (by omega)
  exact ⟨b, off, e, hc j hj⟩
theorem Bys.bd (h : Bys w S a L) {j : Nat} (hj : j < L.length) : 0 ≤ L.getD j 0 ∧ L.getD j 0 ≤ 255 := by
  rw [List.getD_eq_getElem?_getD, List.getElem?_eq_getElem hj]
  exact h.1 _ (List.getElem_mem hj)
theorem getD_drop (L : List Int) (n j : Nat) : (L.drop n).getD j 0 = L.getD (n + j) 0 := by simp [List.getD_eq_getElem?_getD]
theorem getD_take {L : List Int} {n j : Nat} (h : j < n) : (L.take n).getD j 0 = L.getD j 0 := by simp [List.getD_eq_getElem?_getD, List.getElem?_take_of_lt h]
theorem Bys.drop (h : Bys w S a L) {b off : Nat} (n : Nat) (ha : n < L.length → a = some ⟨b, off, none⟩) : Bys w S (some ⟨b, off + n, none⟩) (L.drop n) := ⟨all_drop h.1 n, fun hl => by
  rw [List.length_drop] at hl ⊢
  obtain ⟨b', off', e, hn, hb, hc⟩ := h.2 (by omega)
  rw [ha (by omega)] at e
  injection e with e
  injection e with e1 e2 _
  subst e1 e2
  refine ⟨_, _, rfl, hn, hb, fun j hj => ?_⟩
  rw [Nat.add_assoc, hc (n + j) (by omega), getD_drop]⟩
theorem Bys.take (h : Bys w S a L) (n : Nat) : Bys w S a (L.take n) := ⟨fun x hx => h.1 x (List.mem_of_mem_take hx), fun hl => by
  rw [List.length_take] at hl ⊢
  obtain ⟨b, off, e, hn, hb, hc⟩ := h.2 (by omega)
  refine ⟨b, off, e, hn, hb, fun j hj => ?_⟩
  rw [hc j (by omega), getD_take (by omega)]⟩
theorem bounds_u8 {n : Int} (h : (Lit.int .u8 n).wf = true) : 0 ≤ n ∧ n ≤ 255 := by
  simp [Lit.wf, IntKind.min, IntKind.max, IntKind.signed, IntKind.bits] at h
  omega
theorem Bys.of_row {len cap : Nat} {z : List Int} (h : IsRow .u8 w a len cap z) (hn : ∀ i, i < w.heap.size → ¬ S i) : Bys w S a (z.take len) ∧ (z.take len).length = len ∧ len ≤ cap ∧ cap ≤ maxLen := by
  rcases h with ⟨rfl, rfl, rfl, rfl⟩ | ⟨x, rfl, hl, hm, hz, hc, hwz⟩
  · exact ⟨Bys.nil _ _ _, rfl, Nat.le_refl _, by decide⟩
  · have hlen : (z.take len).length = len := by simp; omega
    have hR : IsRow .u8 w (some x) len cap z := .inr ⟨x, rfl, hl, hm, hz, hc, hwz⟩
    refine ⟨⟨fun y hy => bounds_u8 (hwz y (List.mem_of_mem_take hy)), fun h0 => ?_⟩, hlen, hl, hm⟩
    rw [hlen] at h0 ⊢
    obtain ⟨b, off, e, hb, _, hc⟩ := row_cells hR h0
    exact ⟨b, off, e, hn b hb, hb, fun j hj => by rw [(hc j hj).1, getD_take hj]⟩
end

theorem shl8_or {v n : Int} (h0 : 0 ≤ v) (h1 : v < 72057594037927936) (n0 : 0 ≤ n) (n1 : n ≤ 255) : bits .or .u64 (v * 256) n = 256 * v + n := by
  obtain ⟨a, rfl⟩ := Int.eq_ofNat_of_zero_le h0
  obtain ⟨b, rfl⟩ := Int.eq_ofNat_of_zero_le n0
  have e : (a : Int) * 256 = ((2 ^ 8 * a : Nat) : Int) := by omega
  rw [e, bits_or_u64_nat _ _ (by omega) (by omega), ← Nat.two_pow_add_eq_or_of_lt (by omega : b < 2 ^ 8)]
  omega
theorem pow256_le {k : Nat} (h : k ≤ 7) : (256 : Int) ^ k ≤ 72057594037927936 := by
  obtain rfl | rfl | rfl | rfl | rfl | rfl | rfl | rfl : k = 0 ∨ k = 1 ∨ k = 2 ∨ k = 3 ∨ k = 4 ∨ k = 5 ∨ k = 6 ∨ k = 7 := by omega
  all_goals decide
theorem val_bd {L : List Int} (h : AllB L) {k : Nat} (hk : k ≤ 7) : 0 ≤ valL (L.take k) ∧ valL (L.take k) < 72057594037927936 := by
  obtain ⟨h0, h1⟩ := getF_bd h k
  have hl : (L.take k).length ≤ 7 := by rw [List.length_take]; omega
  have := pow256_le hl
  omega

set_option maxHeartbeats 800000 in
/-- The reader's closure: the next n bytes' number; what is left stands in its cell. -/
theorem read_any (S : Nat → Prop) (g blk off : Nat) (hSg : S g) (L : List Int) (len cap n : Nat) (w : World) (hl : L.length = len) (hg : Blk w g 22 #[.slice (some ⟨blk, off, none⟩) len cap]) (hcap : len ≤ cap) (hm : cap ≤ 9223372036854775807) (hn : n ≤ len) (h8 : n ≤ 8)
    (hb : Bys w S (some ⟨blk, off, none⟩) L) :
    Calls Tryd.prog 85 #[.int .i64 n, .pointer (some ⟨g, 0, none⟩)] w fun e w' => e = .returned (.int .u64 (valL (L.take n))) ∧
      ∃ off' : Nat, w' = w.setCell ⟨g, 0, none⟩ (.slice (some ⟨blk, off', none⟩) (len - n) (cap - n)) ∧ Bys w' S (some ⟨blk, off', none⟩) (L.drop n) := by
  have HB := Lib.hid hb
  have HSG := Lib.hid hSg
  have HG := Lib.hid hg
  have HL := Lib.hid hl
  have hc0 : w.cell? ⟨g, 0, none⟩ = some (.slice (some ⟨blk, off, none⟩) len cap) := hg.cell 0
  have hf0 : w.frozen? ⟨g, 0, none⟩ = false := hg.frozen 0
  have hnc : n ≤ cap := by omega
  clear hb hl hg hSg
  go_enter Tryd.func85, Tryd.ntmps85
  go_wp2
  go_loop [4, 6, 11] (fun v x i => ∃ (k : Nat) (y : Int), k ≤ n ∧ i = .int .i64 k ∧ v = .int .u64 y ∧ Hid (y = valL (L.take k))) (fun _ _ i => n - (intOf i).toNat)
  case atStart => exact ⟨0, 0, by omega, rfl, rfl, Lib.hid rfl⟩
  case round =>
    obtain ⟨k, y, hk, rfl, rfl, HY⟩ := hrel
    by_cases hlt : k < n
    · obtain ⟨b', off', e, hcell⟩ := HB.out.at_ (j := k) (by rw [HL.out]; omega)
      injection e with e
      injection e with e1 e2 _
      subst e1 e2
      have hbd := HB.out.bd (j := k) (by rw [HL.out]; omega)
      have HS := Lib.hid (valL_take (l := L) (i := k) (by rw [HL.out]; omega))
      have hv := val_bd HB.out.1 (k := k) (by omega)
      rw [← HY.out] at hv
      generalize L.getD k 0 = x at *
      have hw1 : IntKind.u64.wrap (y * 256) = y * 256 := IntWalk.u64_in _ (by omega)
      have hw2 : IntKind.u64.wrap x = x := IntWalk.u64_in _ (by omega)
      have hor := shl8_or hv.1 hv.2 hbd.1 hbd.2
      obtain ⟨y', hy'⟩ : ∃ y', 256 * y + x = y' := ⟨_, rfl⟩
      rw [hy'] at hor
      have HY' : Hid (y' = valL (L.take (k + 1))) := Lib.hid (by rw [HS.out, ← HY.out, hy'])
      clear hv hbd hy'
      go_wp2
      refine ⟨⟨k + 1, y', by omega, by go_num, rfl, HY'⟩, ?_⟩
      simp [intOf]; omega
    · obtain rfl : k = n := by omega
      clear hlt
      have hlt : ¬ k < k := by omega
      have HD := Lib.hid (HB.out.drop k (fun _ => rfl))
      have HKp : Hid (∀ v, Kept (fun i => i = g) w (w.setCell ⟨g, 0, none⟩ v)) := Lib.hid fun v => Kept.setCell (S := fun i => i = g) (p := ⟨g, 0, none⟩) (Kept.refl _ _) (.inl rfl) v
      go_wp2
      · rename_i hck
        go_ret
        refine ⟨by rw [HY.out]; rfl, off, by simp [hck], ?_⟩
        rw [List.drop_of_length_le (by rw [HL.out]; omega)]
        exact Bys.nil _ _ _
      · go_ret
        exact ⟨by rw [HY.out]; rfl, _, rfl, HD.out.kept (HKp.out _) fun i _ h => by rw [h]; exact HSG.out⟩

set_option maxHeartbeats 800000 in
theorem value_any (a : Option Addr) (L : List Int) (len cap : Nat) (w : World) (hl : L.length = len) (h8 : len ≤ 8) (hb : Bys w (fun _ => False) a L) :
    Calls Tryd.prog 54 #[.slice a len cap] w fun e w' => e = .returned (.int .u64 (valL L)) ∧ w = w' := by
  have HB := Lib.hid hb
  have HL := Lib.hid hl
  clear hb hl
  go_enter Tryd.func54, Tryd.ntmps54
  go_wp2
  go_loop [3, 4] (fun v i => ∃ (k : Nat) (y : Int), k ≤ len ∧ i = .int .i64 k ∧ v = .int .u64 y ∧ Hid (y = valL (L.take k))) (fun _ i => len - (intOf i).toNat)
  case atStart => exact ⟨0, 0, by omega, rfl, rfl, Lib.hid rfl⟩
  case round =>
    obtain ⟨k, y, hk, rfl, rfl, HY⟩ := hrel
    by_cases hlt : k < len
    · obtain ⟨b', off', rfl, hcell⟩ := HB.out.at_ (j := k) (by rw [HL.out]; omega)
      have hbd := HB.out.bd (j := k) (by rw [HL.out]; omega)
      have HS := Lib.hid (valL_take (l := L) (i := k) (by rw [HL.out]; omega))
      have hv := val_bd HB.out.1 (k := k) (by omega)
      rw [← HY.out] at hv
      generalize L.getD k 0 = x at *
      have hw1 : IntKind.u64.wrap (256 * y) = 256 * y := IntWalk.u64_in _ (by omega)
      have hw2 : IntKind.u64.wrap x = x := IntWalk.u64_in _ (by omega)
      have hw3 : IntKind.u64.wrap (256 * y + x) = 256 * y + x := IntWalk.u64_in _ (by omega)
      have HY' : Hid (256 * y + x = valL (L.take (k + 1))) := Lib.hid (by rw [HS.out, ← HY.out])
      clear hv hbd
      go_wp2
      refine ⟨⟨k + 1, _, by omega, by go_num, rfl, HY'⟩, ?_⟩
      simp [intOf]; omega
    · obtain rfl : k = len := by omega
      clear hlt
      have hlt : ¬ k < k := by omega
      go_wp2
      go_ret
      exact ⟨by rw [HY.out, List.take_of_length_le (by rw [HL.out]; exact Nat.le_refl _)]; rfl, rfl⟩

/-- reader: the closure, with its cell. -/
theorem reader_any (a : Option Addr) (len cap : Nat) (w : World) : Calls Tryd.prog 66 #[.slice a len cap] w fun e w' => e = .returned (.func (.func 85) #[] #[.pointer (some ⟨w.heap.size, 0, none⟩)]) ∧ w' = w.alloc (.cells #[.slice a len cap] 22) := by
  have hmf : ∀ (fn : Fn) (first cap : Array Value) (w : World), (Instr.makeFunc fn first cap).run Tryd.prog w = .ok (.func fn first cap) w := fun _ _ _ _ => rfl
  go_enter Tryd.func66, Tryd.ntmps66
  go_wp2
  go_ret
  exact ⟨rfl, rfl⟩
end Go.Proofs.YtniehmlklbggdaaDoor
