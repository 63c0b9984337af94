/- The laws' argument: rounds; few. -/
import Derived.Test.YtkeclanbebiogaaPr
import Derived.Test.YtkeclanbebiogaaSlices
import Derived.Test.YtkeclanbebiogaaStructs
import Derived.ChangeSlices
import Derived.Deep.Grids
import Derived.Deep.MidRow
namespace Go.Proofs.Ytkeclanbebiogaa
open Go Go.ChangeShapes Go.WideShapes Go.RowKit Go.Deep
set_option linter.unusedVariables false
set_option linter.unusedSimpArgs false
set_option maxRecDepth 100000

/-- A round's value. -/
structure Rnd where
  af : Option Addr
  cf : Nat
  F : List Int
  av : Option Addr
  cv : Nat
  V : List Int
  lim : Int
instance : Inhabited Rnd := ⟨⟨none, 0, [], none, 0, [], 0⟩⟩
def rowR (r : Rnd) : List Value := [.slice r.af r.F.length r.cf, .slice r.av r.V.length r.cv, .int .u64 r.lim]
def cellsR (r : Rnd) : Array Value := (rowR r).toArray
/-- What a round holds. -/
def RndAt (w : World) (S : Nat → Prop) (r : Rnd) : Prop := IntsAt w S r.af r.F ∧ IntsAt w S r.av r.V ∧ r.F.length ≤ 9223372036854775807 ∧ r.V.length ≤ 9223372036854775807 ∧ 0 ≤ r.lim ∧ r.lim ≤ 18446744073709551615
def RoundsAt (w : World) (a : Option Addr) (len : Nat) (R : Nat → Rnd) : Prop :=
  0 < len → ∃ b off, a = some ⟨b, off, none⟩ ∧ b < w.heap.size ∧ ∀ i, i < len → w.rangeAt b (off + i * 3) (rowR (R i)) ∧ RndAt w (fun _ => False) (R i)
/-- A slice of rounds that came in. -/
def IsRounds (w : World) (a : Option Addr) (len cap : Nat) : Prop := len ≤ cap ∧ cap ≤ maxLen ∧ ∃ R, RoundsAt w a len R
theorem infoR : (Try.prog.info? 39).map (·.size) = some 3 := by kernel_rfl
theorem cellsR_one (r : Rnd) : (cellsR r).all (·.oneCell') = true := by
  refine Array.all_eq_true_iff_forall_mem.2 (fun u hu => ?_)
  have hu : u ∈ rowR r := by simpa [cellsR] using hu
  simp only [rowR, List.mem_cons, List.not_mem_nil, or_false] at hu
  rcases hu with rfl | rfl | rfl <;> rfl

section
variable {H : Type} {enc : TypeId × Value → H} {w : World} {base : Nat} {held : Bool}
theorem spot_none {w : World} {x : Addr} {v : Value} (h : w.cell? (x.add 0) = some v) : x.spot = none := by
  have := World.cell?_spot h
  simpa [Addr.add] using this
theorem ints_of_trod {n : Nat} {v : Value} {y : DataW H × List MemPlace} (h : DataW.trod enc Try.prog w base (fun _ => true) held n 31 [v] = some y) :
    ∃ al cl L, v = .slice al (List.length L) cl ∧ L.length ≤ 9223372036854775807 ∧ IntsAt w (fun _ => False) al L := by
  rcases open_ints Try.underlying31 Try.underlying3 (by kernel_rfl) h with ⟨hcs, _⟩ | ⟨x, l, c, zs, hcs, _, hl, hm, hzl, _, hcell, hwf⟩
  · injection hcs with hcs
    exact ⟨none, 0, [], hcs, by simp, IntsAt.nil _ _ _⟩
  · injection hcs with hcs
    simp only [if_true] at hzl
    obtain ⟨h1, h2, h3, h4⟩ := IntsAt.of_row (w := w) (S := fun _ => False) (a := some x) (len := l) (cap := c) (z := zs) (.inr ⟨x, rfl, hl, hm, hzl, hcell, hwf⟩) (fun _ _ h => h)
    exact ⟨some x, c, zs.take l, by rw [h2]; exact hcs, by omega, h1⟩
theorem open_S22 {r : Reach} {b0 : Nat} {v : Value} {d : DataW H} {p : List MemPlace} (hv : Value.okWide Try.prog w r b0 22 v) (h : DataW.Trod enc Try.prog w base (fun _ => true) held 22 v d p) : ∃ (a : Option Addr) (len cap : Nat), v = .slice a len cap ∧ IsRounds w a len cap := by
  obtain ⟨a, len, cap, rfl⟩ := okWide_slice Try.underlying22 hv
  refine ⟨a, len, cap, rfl, ?_⟩
  obtain ⟨fuel, hf⟩ := h
  rcases open_slice_cells Try.underlying22 Try.underlying39 (by kernel_rfl) (by kernel_rfl) hf with hcs | ⟨x, l, c, hcs, hl, hm, hi⟩
  · simp [Value.cells] at hcs
    obtain ⟨rfl, rfl, rfl⟩ := hcs
    exact ⟨by omega, by unfold maxLen; omega, fun _ => default, fun h0 => by omega⟩
  · simp [Value.cells] at hcs
    obtain ⟨rfl, rfl, rfl⟩ := hcs
    obtain ⟨b, off, spot⟩ := x
    have H2 : ∀ i, i < len → ∃ R : Rnd, (∀ j u, (rowR R)[j]? = some u → w.cell? ((⟨b, off, spot⟩ : Addr).add (i * 3 + j)) = some u) ∧ RndAt w (fun _ => False) R := fun i hi' => by
      obtain ⟨_, v0, _, hc0, ht0⟩ := hi i hi' 0 _ rfl
      obtain ⟨_, v1, _, hc1, ht1⟩ := hi i hi' 1 _ rfl
      obtain ⟨_, v2, _, hc2, ht2⟩ := hi i hi' 2 _ rfl
      obtain ⟨k2, e2, _, hw2⟩ := DataW.trod_int Try.underlying35 ht2
      obtain ⟨al, cl, F, e0, q0, r0⟩ := ints_of_trod ht0
      obtain ⟨av, cv, V, e1, q1, r1⟩ := ints_of_trod ht1
      injection e2 with e2
      subst e0 e1 e2
      refine ⟨⟨al, cl, F, av, cv, V, k2⟩, fun j u hu => ?_, r0, r1, q0, q1, u64_of hw2⟩
      match j, hu with
      | 0, hu => simp [rowR] at hu; subst hu; exact hc0
      | 1, hu => simp [rowR] at hu; subst hu; exact hc1
      | 2, hu => simp [rowR] at hu; subst hu; exact hc2
      | j + 3, hu => simp [rowR] at hu
    obtain ⟨R, hR⟩ := choose_lt H2
    refine ⟨hl, hm, R, fun h0 => ?_⟩
    have hc0 := (hR 0 h0).1 0 _ rfl
    have hs : spot = none := spot_none (by simpa using hc0)
    subst hs
    refine ⟨b, off, rfl, by have := cell_lt hc0; rwa [add_plain] at this, fun i hi' => ?_⟩
    obtain ⟨h1, h2⟩ := hR i hi'
    refine ⟨fun j u hu => ?_, h2⟩
    have := h1 j u hu
    rw [add_plain] at this
    rw [Nat.add_assoc]
    exact this
end
/-- A round is read out of a row. -/
theorem wpList_load_rnd {P : Program} {ops : Array Oper} {rest : List Oper} {op : Oper} {a : Act} {w : World} {Q : Exit → Act → World → Prop} (hgd : op.guard = none) (ty : TypeId) (x : Operand) (ho : op.op = .load ty x)
    (b o : Nat) (hx : a.eval x = .pointer (some ⟨b, o, none⟩)) (v : Rnd) (d : TypeDesc) (hc : w.rangeAt b o (rowR v))
    (hu : P.underlying ty = some d) (hd : d.isRow = true) (hi : (P.info? ty).map (·.size) = some 3)
    (h : wpList P ops Q rest (a.put op.dst (.agg (cellsR v))) w) : wpList P ops Q (op :: rest) a w :=
  wpList_load_mid hgd ty x ho b o hx (rowR v) d hc hu hd hi h
theorem RndAt.below {w w' : World} {S : Nat → Prop} {r : Rnd} (h : RndAt w S r) (hb : Below w.heap.size w w') : RndAt w' S r := ⟨h.1.below hb, h.2.1.below hb, h.2.2⟩
theorem RndAt.kept {w w' : World} {S T : Nat → Prop} {r : Rnd} (h : RndAt w S r) (k : Kept T w w') (hT : ∀ i, i < w.heap.size → T i → S i) : RndAt w' S r := ⟨h.1.kept k hT, h.2.1.kept k hT, h.2.2⟩
theorem RndAt.other {w : World} {S T : Nat → Prop} {r : Rnd} (h : RndAt w S r) (hT : ∀ i, i < w.heap.size → T i → S i) : RndAt w T r := ⟨h.1.other hT, h.2.1.other hT, h.2.2⟩
/-- One round, where the law's loop stands. -/
theorem RoundsAt.at {w wr : World} {a : Option Addr} {len k : Nat} {R : Nat → Rnd} (h : RoundsAt w a len R) (hr : Below w.heap.size w wr) (hk : k < len) :
    ∃ b off, a = some ⟨b, off, none⟩ ∧ b < w.heap.size ∧ Hid (wr.rangeAt b (off + k * 3) (rowR (R k))) ∧ Hid (RndAt wr (fun i => w.heap.size ≤ i) (R k)) := by
  obtain ⟨b, off, rfl, hbl, hc⟩ := h (by omega)
  obtain ⟨h1, h2⟩ := hc k hk
  exact ⟨b, off, rfl, hbl, Lib.hid (fun j u hu => (hr.cell (p := ⟨b, off + k * 3 + j, none⟩) hbl).trans (h1 j u hu)), Lib.hid ((h2.other (fun i hi hle => by omega)).below hr)⟩

/-- What few says. -/
def FewPost (w : World) (len : Nat) (R : Nat → Rnd) (e : Ending) (w' : World) : Prop := ∃ r : Bool, e = .returned (.bool r) ∧ (r = true → len ≤ 40 ∧ ∀ i, i < len → (R i).F.length ≤ 20 ∧ (R i).V.length ≤ 20) ∧ Below w.heap.size w w'
set_option maxHeartbeats 800000 in
theorem few_any (a : Option Addr) (len cap : Nat) (R : Nat → Rnd) (w : World) (h : RoundsAt w a len R) (hl : len ≤ 9223372036854775807) : Calls Try.prog 9 #[.slice a len cap] w (FewPost w len R) := by
  have H := Lib.hid h
  clear h
  by_cases hb : (40 : Int) < (len : Int)
  · go_enter Try.func9, Try.ntmps9
    go_wp2
    go_ret
    exact ⟨false, rfl, (fun h => by cases h), Below.refl _ _⟩
  · go_enter Try.func9, Try.ntmps9
    go_wp2
    go_loopw [10] (fun s10 wr => ∃ k : Nat, k ≤ len ∧ s10 = .int .i64 k ∧ Hid (Below w.heap.size w wr) ∧ Hid (∀ i, i < k → (R i).F.length ≤ 20 ∧ (R i).V.length ≤ 20)) (fun s10 _ => len - (intOf s10).toNat)
    case atStart => exact ⟨0, by omega, rfl, Lib.hid (Below.refl _ _), Lib.hid (fun i hi => by omega)⟩
    case round =>
      obtain ⟨k, hk, rfl, B, HF⟩ := hrel
      by_cases hkl : k < len
      · obtain ⟨b, off, rfl, hbl, hx, hr2⟩ := H.out.at B.out hkl
        obtain ⟨r, hr⟩ : ∃ r, R k = r := ⟨_, rfl⟩
        rw [hr] at hx hr2
        have HR := Lib.hid hr
        have hl1 := hr2.out.2.2.1
        have hl2 := hr2.out.2.2.2.1
        clear hr hr2
        have HB2 : Hid (Below w.heap.size w (wr.alloc (.cells (cellsR r) 39))) := Lib.hid (B.out.alloc B.out.size _)
        have x0 : (wr.alloc (.cells (cellsR r) 39)).cell? ⟨wr.heap.size, 0, none⟩ = some (.slice r.af r.F.length r.cf) := (Blk.new wr _ (cellsR r)).cell 0
        have x1 : (wr.alloc (.cells (cellsR r) 39)).cell? ⟨wr.heap.size, 1, none⟩ = some (.slice r.av r.V.length r.cv) := (Blk.new wr _ (cellsR r)).cell 1
        by_cases h1 : (20 : Int) < (r.F.length : Int)
        · clear x1
          go_wp2_with (first | (refine wpList_load_rnd rfl 39 _ rfl b (off + k * 3) rfl r _ hx.out Try.underlying39 rfl infoR ?_) | (refine wpList_store_row rfl _ _ _ rfl wr.heap.size (cellsR r) rfl rfl 39 _ (heap_alloc_new wr _) infoR rfl (cellsR_one r) ?_; rw [World.setRow_alloc_new]))
          go_ret
          exact ⟨false, rfl, (fun h => by cases h), HB2.out⟩
        · by_cases h2 : (20 : Int) < (r.V.length : Int)
          · go_wp2_with (first | (refine wpList_load_rnd rfl 39 _ rfl b (off + k * 3) rfl r _ hx.out Try.underlying39 rfl infoR ?_) | (refine wpList_store_row rfl _ _ _ rfl wr.heap.size (cellsR r) rfl rfl 39 _ (heap_alloc_new wr _) infoR rfl (cellsR_one r) ?_; rw [World.setRow_alloc_new]))
            go_ret
            exact ⟨false, rfl, (fun h => by cases h), HB2.out⟩
          · have HF2 : Hid (∀ i, i < k + 1 → (R i).F.length ≤ 20 ∧ (R i).V.length ≤ 20) := Lib.hid (fun i hi => by
              by_cases hik : i = k
              · subst hik
                rw [HR.out]
                omega
              · exact HF.out i (by omega))
            go_wp2_with (first | (refine wpList_load_rnd rfl 39 _ rfl b (off + k * 3) rfl r _ hx.out Try.underlying39 rfl infoR ?_) | (refine wpList_store_row rfl _ _ _ rfl wr.heap.size (cellsR r) rfl rfl 39 _ (heap_alloc_new wr _) infoR rfl (cellsR_one r) ?_; rw [World.setRow_alloc_new]))
            go_roundw
            case rel => exact ⟨k + 1, by omega, by go_num, HB2, HF2⟩
            case measure => simp [intOf]; omega
      · obtain rfl : k = len := by omega
        clear hkl
        have hkl : ¬ k < k := by omega
        go_wp2
        go_ret
        exact ⟨true, rfl, fun _ => ⟨by omega, HF.out⟩, B.out⟩
end Go.Proofs.Ytkeclanbebiogaa
