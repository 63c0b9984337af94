/- Bytes that are laid: write, the reference's big; fits, length. -/
import Derived.Test.YtniehmlklbggdaaDoorTab
import Derived.Test.YtniehmlklbggdaaDoorAppend
import Derived.Test.YtniehmlklbggdaaDoorRead
import Derived.Laws.Shifts
namespace Go.Proofs.YtniehmlklbggdaaDoor
open Go Go.RowKit
set_option linter.unusedVariables false
set_option linter.unusedSimpArgs false
set_option maxRecDepth 100000

/-- A slice value with n bytes of one's own, in blocks from base on. -/
def OwnB (w : World) (base : Nat) (v : Value) (n : Nat) (L : List Int) : Prop := w.ownsRow base 5 1 v n (L.map (Value.int .u8))
theorem u8_app : ∃ i, Tryd.prog.info? 5 = some i ∧ i.zero = some (.int .u8 0) ∧ i.size = 1 ∧ i.bytes = 1 := by
  have h : (Tryd.prog.info? 5).map (fun i => (i.zero, i.size, i.bytes)) = some (some (.int .u8 0), 1, 1) := by kernel_rfl
  cases hi : Tryd.prog.info? 5 with
  | none => rw [hi] at h; cases h
  | some i =>
    rw [hi] at h
    simp at h
    exact ⟨i, rfl, h.1, h.2.1, h.2.2⟩
theorem shr_pow (x : Int) (m : Nat) : x / 2 ^ (8 * m) = x / 256 ^ m := by rw [Int.pow_mul]; rfl
theorem OwnB.alloc {w : World} {base : Nat} {v : Value} {n : Nat} {L : List Int} (h : OwnB w base v n L) (o : Obj) : OwnB (w.alloc o) base v n L := ownsR_below h ((Below.refl _ _).alloc (Nat.le_refl _) o)
theorem OwnB.nil (w : World) (base : Nat) : OwnB w base (.slice none 0 0) 0 [] := ⟨rfl, .inl ⟨rfl, rfl⟩⟩
theorem bys_one (w : World) (S : Nat → Prop) (y : Int) (h : 0 ≤ y ∧ y ≤ 255) (hS : ¬ S w.heap.size) : Bys (w.alloc (.cells #[.int .u8 y] 5)) S (some ⟨w.heap.size, 0, none⟩) [y] :=
  ⟨fun x hx => by simp at hx; subst hx; exact h, fun _ => ⟨_, _, rfl, hS, by simp, fun j hj => by
    obtain rfl : j = 0 := by simpa using hj
    exact (Blk.new w 5 #[.int .u8 y]).cell 0⟩⟩
theorem u8_cells {M : List Int} : ∀ u ∈ M.map (Value.int .u8), u.oneCell' = true := fun u hu => by
  obtain ⟨x, _, rfl⟩ := List.mem_map.1 hu
  rfl
theorem bys_src {w : World} {S : Nat → Prop} {a : Option Addr} {M : List Int} {m : Nat} (h : Bys w S a M) (hl : M.length = m) : 0 < m → ∃ ad, a = some ad ∧ ∀ j u, (M.map (Value.int .u8))[j]? = some u → w.cell? (ad.add j) = some u := fun h0 => by
  obtain ⟨b, off, e, _, _, hc⟩ := h.2 (by omega)
  refine ⟨_, e, fun j u hu => ?_⟩
  have hj : j < M.length := by simpa using (List.getElem?_eq_some_iff.1 hu).1
  rw [add_plain, hc j hj]
  rw [List.getElem?_map, List.getElem?_eq_getElem hj] at hu
  rw [List.getD_eq_getElem?_getD, List.getElem?_eq_getElem hj]
  exact hu
theorem arm_app {ops : Array Oper} {rest : List Oper} {o : Oper} {c : Act} {w : World} {Q : Exit → Act → World → Prop} {base n m cap : Nat} {v : Value} {L M : List Int} {A : Option Addr} {S : Nat → Prop} (H : OwnB w base v n L) (hM : Bys w S A M)
    (hgd : o.guard = none) (s x : Operand) (ho : o.op = .call { callee := .builtin .append, args := #[s, x], argTypes := #[22, 22] }) (hs : c.eval s = v) (hx : c.eval x = .slice A m cap) (hl : M.length = m) (h63 : n + m ≤ 100000) (hbase : base ≤ w.heap.size)
    (K : ∀ v' w', OwnB w' base v' (n + m) (L ++ M) → w.grownBy w' v.ownBlock → (v'.ownBlock = v.ownBlock ∨ v'.ownBlock = some w.heap.size) → wpList Tryd.prog ops Q rest (c.put o.dst v') w') : wpList Tryd.prog ops Q (o :: rest) c w := by
  obtain ⟨i8, hi8, hz8, hs8, hb8⟩ := u8_app
  refine wpList_append_src w hgd s x 22 ho base 5 i8 _ 1 1 Tryd.underlying22 hi8 hz8 hs8 hb8 rfl (by omega) v n _ hs H A m cap (M.map (Value.int .u8)) hx (by simp [hl]) (bys_src hM hl) u8_cells (by unfold maxLen; omega) (by omega) hbase fun v' w' h1 h2 h3 => K v' w' ?_ h2 h3
  unfold OwnB
  rw [List.map_append]
  exact h1
theorem OwnB.ge {w : World} {base : Nat} {v : Value} {n : Nat} {L : List Int} (h : OwnB w base v n L) {i : Nat} (hi : v.ownBlock = some i) : base ≤ i := (ownsR_blk h hi).choose_spec.2
set_option maxHeartbeats 800000 in
/-- The reference's big: a number's bytes, in a row made anew. -/
theorem big_any (x : Int) (n : Nat) (h0 : 0 ≤ x) (h1 : x ≤ 18446744073709551615) (hn : n ≤ 8) (w : World) :
    Calls Tryd.prog 57 #[.int .u64 x, .int .i64 n] w fun e w' => ∃ v, e = .returned v ∧ OwnB w' w.heap.size v n (bigL x n) ∧ Below w.heap.size w w' := by
  go_enter Tryd.func57, Tryd.ntmps57
  go_wp2
  go_loopw [5, 6] (fun v i wr => ∃ (m : Nat) (D : List Int), m ≤ n ∧ i = .int .i64 ((m : Int) - 1) ∧ Hid (D ++ bigL x m = bigL x n) ∧ Hid (D.length + m = n) ∧ Hid (OwnB wr w.heap.size v D.length D) ∧ Hid (Below w.heap.size w wr)) (fun _ i _ => (intOf i + 1).toNat)
  case atStart =>
    exact ⟨n, [], by omega, by go_num, Lib.hid rfl, Lib.hid (by simp), Lib.hid (OwnB.nil _ _), Lib.hid (Below.refl _ _)⟩
  case round =>
    obtain ⟨m, D, hm, rfl, HD, HL, HO, HB⟩ := hrel
    by_cases hlt : 0 < m
    · obtain ⟨k, rfl⟩ : ∃ k, m = k + 1 := ⟨m - 1, by omega⟩
      have hz := shr_pow x k
      have HD' : Hid ((D ++ [x / 256 ^ k % 256]) ++ bigL x k = bigL x n) := Lib.hid (by rw [← HD.out, bigL]; simp)
      have hbd : 0 ≤ x / 256 ^ k % 256 ∧ x / 256 ^ k % 256 ≤ 255 := by omega
      obtain ⟨z, hz'⟩ : ∃ z, x / 256 ^ k = z := ⟨_, rfl⟩
      rw [hz'] at hz HD' hbd
      obtain ⟨y, hy⟩ : ∃ y, z % 256 = y := ⟨_, rfl⟩
      rw [hy] at HD' hbd
      clear hz'
      have HO1 := Lib.hid (HO.out.alloc (.cells #[.int .u8 y] 5))
      have HM := Lib.hid (bys_one wr (fun _ => False) y hbd (fun h => h))
      have HB1 := Lib.hid (HB.out.alloc HB.out.size (.cells #[.int .u8 y] 5))
      have HL2 : Hid (D.length + 1 ≤ 100000) := Lib.hid (by have := HL.out; omega)
      clear hbd
      go_wp2_with (refine arm_app HO1.out HM.out rfl _ _ rfl rfl rfl rfl HL2.out HB1.out.size ?_; intro v' w' HO' HG HV; have HO2 := Lib.hid HO'; have HB2 := Lib.hid (HB1.out.grown HG HB1.out.size (fun i hi => HO1.out.ge hi)); clear HO' HG HV)
      refine ⟨⟨k, D ++ [y], by omega, rfl, HD', Lib.hid (by have := HL.out; simp; omega), Lib.hid (by simpa using HO2.out), HB2⟩, ?_⟩
      simp [intOf]
    · obtain rfl : m = 0 := by omega
      have HE : Hid (D = bigL x n) := Lib.hid (by rw [← HD.out]; simp [bigL])
      have HN : Hid (D.length = n) := Lib.hid (by have := HL.out; omega)
      clear hlt HD HL
      go_wp2
      go_ret
      exact ⟨_, rfl, by rw [← HE.out, ← HN.out]; exact HO.out, HB.out⟩
theorem Od.get_bd (d : Od) {o : Oq} (hf : FitsOq o) : 0 ≤ d.get o ∧ d.get o ≤ 18446744073709551615 := by
  cases d
  · simp only [Od.get, IntKind.wrap_u64]; omega
  · simp only [Od.get, IntKind.wrap_u64]; omega
  · exact u64_wf hf.2.2.2
theorem Od.sz_le (d : Od) : d.sz ≤ 8 := by cases d <;> decide
/-- The own block of s is that of v, or new to w. -/
def Near (v s : Value) (B : Nat) : Prop := ∀ i, s.ownBlock = some i → v.ownBlock = some i ∨ B ≤ i
set_option maxHeartbeats 1600000 in
/-- write: the operand's bytes behind those that are there. -/
theorem write_any (d : Od) (o : Oq) (hf : FitsOq o) (v : Value) (n base : Nat) (L : List Int) (w : World) (ho : OwnB w base v n L) (hb : base ≤ w.heap.size) (hn : n ≤ 1000) :
    Calls Tryd.prog 56 #[.agg (cellsOd d), v, .agg (cellsOq o)] w fun e w' => ∃ v', e = .returned v' ∧ OwnB w' base v' (n + d.sz) (L ++ bigL (d.get o) d.sz) ∧ Kept (fun i => v.ownBlock = some i) w w' ∧ Near v v' w.heap.size := by
  have HC := Lib.hid (call_get d)
  have HG := Lib.hid (fun w => get_any d o w)
  have hbd := d.get_bd hf
  have hs8 := d.sz_le
  have HO := Lib.hid ho
  have HV : Hid (∀ i, v.ownBlock = some i → i < w.heap.size) := Lib.hid fun i hi => (ho.lt i hi).2
  have B3 : Blk ((w.alloc (.cells (cellsOd d) 86)).alloc (.cells (cellsOq o) 35)) w.heap.size 86 (cellsOd d) := (Blk.new w _ _).alloc _
  have B5 : Blk ((w.alloc (.cells (cellsOd d) 86)).alloc (.cells (cellsOq o) 35)) (w.heap.size + 1) 35 (cellsOq o) := by
    have := Blk.new (w.alloc (.cells (cellsOd d) 86)) 35 (cellsOq o)
    rwa [show (w.alloc (.cells (cellsOd d) 86)).heap.size = w.heap.size + 1 by simp] at this
  have K0 : Kept (fun i => v.ownBlock = some i) w ((w.alloc (.cells (cellsOd d) 86)).alloc (.cells (cellsOq o) 35)) := ((Kept.refl _ _).alloc _).alloc _
  have O0 : OwnB ((w.alloc (.cells (cellsOd d) 86)).alloc (.cells (cellsOq o) 35)) base v n L := (ho.alloc _).alloc _
  have z0 : (w.alloc (.cells (cellsOd d) 86)).heap.size = w.heap.size + 1 := by simp
  have Z0 : Hid (((w.alloc (.cells (cellsOd d) 86)).alloc (.cells (cellsOq o) 35)).heap.size = w.heap.size + 2) := Lib.hid (by simp)
  clear ho
  generalize hx : d.get o = x at *
  clear hx
  have HB3 := Lib.hid B3
  have HB5 := Lib.hid B5
  have HK0 := Lib.hid K0
  have HO0 := Lib.hid O0
  have hc0 : ((w.alloc (.cells (cellsOd d) 86)).alloc (.cells (cellsOq o) 35)).cell? ⟨w.heap.size, 0, none⟩ = some (.int .i64 (d.sz : Int)) := B3.cell 0
  clear B3 B5 K0 O0
  obtain ⟨s, hs⟩ : ∃ s, d.sz = s := ⟨_, rfl⟩
  rw [hs] at hc0 hs8 ⊢
  clear hs
  go_enter Tryd.func56, Tryd.ntmps56
  go_upto_region 1 with (fail)
  generalize (w.alloc (.cells (cellsOd d) 86)).alloc (.cells (cellsOq o) 35) = W at *
  go_wp2_with (fail)
  clear hc0 z0
  go_loopw [1, 7] (fun u i wr => ∃ (m : Nat) (D : List Int), m ≤ s ∧ i = .int .i64 ((m : Int) - 1) ∧ Hid (D ++ bigL x m = bigL x s) ∧ Hid (D.length + m = s) ∧ Hid (OwnB wr base u (n + D.length) (L ++ D)) ∧ Hid (Near v u (w.heap.size + 2)) ∧
    Hid (Blk wr w.heap.size 86 (cellsOd d)) ∧ Hid (Blk wr (w.heap.size + 1) 35 (cellsOq o)) ∧ Hid (Kept (fun i => v.ownBlock = some i) w wr) ∧ Hid (w.heap.size + 2 ≤ wr.heap.size)) (fun _ i _ => (intOf i + 1).toNat)
  case atStart =>
    exact ⟨s, [], by omega, by go_num, Lib.hid rfl, Lib.hid (by simp), Lib.hid (by simpa using HO0.out), Lib.hid fun i hi => .inl hi, HB3, HB5, HK0, Lib.hid (by rw [Z0.out]; exact Nat.le_refl _)⟩
  case round =>
    obtain ⟨m, D, hm, rfl, HD, HL, HOW, HNR, R3, R5, HK, HZ⟩ := hrel
    by_cases hlt : 0 < m
    · obtain ⟨k, rfl⟩ : ∃ k, m = k + 1 := ⟨m - 1, by omega⟩
      have hz := shr_pow x k
      have HD' : Hid ((D ++ [x / 256 ^ k % 256]) ++ bigL x k = bigL x s) := Lib.hid (by rw [← HD.out, bigL]; simp)
      have hyb : 0 ≤ x / 256 ^ k % 256 ∧ x / 256 ^ k % 256 ≤ 255 := by omega
      obtain ⟨z, hz'⟩ : ∃ z, x / 256 ^ k = z := ⟨_, rfl⟩
      rw [hz'] at hz HD' hyb
      obtain ⟨y, hy⟩ : ∃ y, z % 256 = y := ⟨_, rfl⟩
      rw [hy] at HD' hyb
      clear hz'
      have HYB := Lib.hid hyb
      have HQ := Lib.hid hz
      have HY := Lib.hid hy
      have hc1 : wr.cell? ⟨w.heap.size, 1, none⟩ = some (.func (.func d.getF) #[] #[]) := R3.out.cell 1
      have hcall := HC.out
      clear hz hy hyb
      go_wp2_with (refine wpList_load_row rfl 35 _ rfl (w.heap.size + 1) rfl 35 (cellsOq o) (0, 0) _ R5.out Tryd.underlying35 rfl infoOq ?_)
      refine (HG.out wr).mono ?_
      rintro e w2 ⟨rfl, b2⟩
      have HO1 := Lib.hid (OwnB.alloc (ownsR_below HOW.out b2) (.cells #[.int .u8 y] 5))
      have HM := Lib.hid (bys_one w2 (fun _ => False) y HYB.out (fun h => h))
      have S3 := Lib.hid ((R3.out.below b2 R3.out.lt).alloc (.cells #[.int .u8 y] 5))
      have S5 := Lib.hid ((R5.out.below b2 R5.out.lt).alloc (.cells #[.int .u8 y] 5))
      have SK := Lib.hid ((HK.out.trans (Kept.of_below (S := fun _ => False) b2) (fun _ _ h => h.elim)).alloc (.cells #[.int .u8 y] 5))
      have SZ : Hid (w.heap.size + 2 ≤ (w2.alloc (.cells #[.int .u8 y] 5)).heap.size) := Lib.hid (by have := HZ.out; have := b2.size; simp; omega)
      have HL2 : Hid (n + D.length + 1 ≤ 100000) := Lib.hid (by have := HL.out; omega)
      have HBS : Hid (base ≤ (w2.alloc (.cells #[.int .u8 y] 5)).heap.size) := Lib.hid (by have := SZ.out; omega)
      have hz := HQ.out
      have hy := HY.out
      clear b2 HOW R3 R5 HK HZ hcall hc1
      go_wp2_with (refine arm_app HO1.out HM.out rfl _ _ rfl rfl rfl rfl HL2.out HBS.out ?_; intro v' w' HO' HGr HVr; have P1 := Lib.hid HO'; have P2 := Lib.hid HGr; have P3 := Lib.hid HVr; clear HO' HGr HVr)
      have hfar : ∀ i, i < w.heap.size + 2 → w.heap.size ≤ i → some i ≠ u1.ownBlock := fun i h1 h2 he => by
        rcases HNR.out i he.symm with h | h
        · have := HV.out i h; omega
        · omega
      refine ⟨⟨k, D ++ [y], by omega, rfl, HD', Lib.hid (by have := HL.out; simp; omega), Lib.hid (by simpa [Nat.add_assoc] using P1.out), Lib.hid fun i hi => ?_, Lib.hid (S3.out.grown P2.out (hfar _ (by omega) (by omega))), Lib.hid (S5.out.grown P2.out (hfar _ (by omega) (by omega))), Lib.hid ?_, Lib.hid (Nat.le_trans SZ.out P2.out.size)⟩, ?_⟩
      · rcases P3.out with h | h
        · exact HNR.out i (by rw [← h]; exact hi)
        · rw [h] at hi; injection hi with hi; have := SZ.out; right; omega
      · refine SK.out.trans (T := fun i => u1.ownBlock = some i) (Kept.of_grown P2.out fun i hi => hi.symm) fun i hi h => ?_
        rcases HNR.out i h with h | h
        · exact h
        · omega
      · simp [intOf]
    · obtain rfl : m = 0 := by omega
      have HE : Hid (D = bigL x s) := Lib.hid (by rw [← HD.out]; simp [bigL])
      have HN : Hid (D.length = s) := Lib.hid (by have := HL.out; omega)
      clear hlt HD HL
      go_wp2
      go_ret
      exact ⟨_, rfl, by rw [← HE.out, ← HN.out]; exact HOW.out, HK.out, fun i hi => (HNR.out i hi).imp id (by omega)⟩
end Go.Proofs.YtniehmlklbggdaaDoor
