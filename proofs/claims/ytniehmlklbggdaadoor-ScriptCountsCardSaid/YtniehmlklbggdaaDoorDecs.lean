/- Decode on a whole script, the program's: a range over the operations. -/
import Derived.Test.YtniehmlklbggdaaDoorMem
import Derived.Test.YtniehmlklbggdaaDoorDec
import Derived.Test.YtniehmlklbggdaaDoorJointH
import Derived.Test.YtniehmlklbggdaaDoorRoundIn
import Derived.RangeFuncBox
import Derived.RangeFuncLeaves
import Derived.Shelf.Abstract
import Derived.OwnWalkIn
import Derived.TacticsInMore
import Derived.LoopNIn
import Derived.LoopIn
import Derived.Laws.EntriesVeiled
namespace Go.Proofs.YtniehmlklbggdaaDoor
open Go Go.RowKit Go.Shelf
set_option linter.unusedVariables false
set_option linter.unusedSimpArgs false
set_option maxRecDepth 100000

attribute [local go_sem] Oper.semAt_some

/-! ### arms -/
section
variable {F : Fence} {n : Nat} {w : World} {ops : Array Oper} {rest : List Oper} {o : Oper} {c : Act} {Q : Exit → Act → World → Prop}
theorem wpListIn_oneOq (hgd : o.guard = none) (x : Operand) (p : Oq) (ho : o.op = .buildSlice 25 1 #[(0, x)]) (hx : c.eval x = .agg (cellsOq p))
    (h : wpListIn F n Tryd.prog ops Q rest (c.put o.dst (.slice (some ⟨w.heap.size, 0, none⟩) 1 1)) (w.alloc (.cells (cellsOq p) 35))) : wpListIn F n Tryd.prog ops Q (o :: rest) c w := by
  refine wpListIn_run hgd (fun c => by rw [ho]; intro e; cases e) (by simp [Oper.about, ho]) (.slice (some ⟨w.heap.size, 0, none⟩) 1 1) ?_ h
  unfold execOp
  simp only [ho, List.map_toArray, List.map_cons, List.map_nil, hx, Sem.run_bind, run_oneOq p w, Result.andThen_ok, Sem.run_pure]
theorem armIn_appO {base k m cap : Nat} {v : Value} {L M : List Oq} {A : Option Addr} {S : Nat → Prop} (H : OwnO w base v k L) (hM : LstR Oq.row 4 w S A M)
    (hgd : o.guard = none) (s x : Operand) (ho : o.op = .call { callee := .builtin .append, args := #[s, x], argTypes := #[25, 25] }) (hs : c.eval s = v) (hx : c.eval x = .slice A m cap) (hl : M.length = m) (h63 : k + m ≤ 4000000) (hbase : base ≤ w.heap.size)
    (K : ∀ v' w', OwnO w' base v' (k + m) (L ++ M) → w.grownBy w' v.ownBlock → (v'.ownBlock = v.ownBlock ∨ v'.ownBlock = some w.heap.size) → wpListIn F n Tryd.prog ops Q rest (c.put o.dst v') w') : wpListIn F n Tryd.prog ops Q (o :: rest) c w := by
  obtain ⟨i8, hi8, hz8, hs8, hb8⟩ := appOq
  refine wpListIn_append_src hgd s x 25 ho base 35 i8 _ 4 32 Tryd.underlying25 hi8 hz8 hs8 hb8 rfl (by omega) v k _ hs H A m cap (flatR Oq.row M) hx (by rw [flatR_len Oq.row_len, hl]) (fun h0 => hM.flat Oq.row_len (by omega) (by omega)) (flatR_mem Oq.row_one) (by unfold maxLen; omega) (by omega) hbase fun v' w' h1 h2 h3 => K v' w' ?_ h2 h3
  unfold OwnO
  rw [flatR_append]
  exact h1
end

/-! ### what Decode answers at the offset behind k operations -/
def cS (L : List Int) (N k : Nat) : Oq := if k < N then opS L k else oqZ
def nxS (L : List Int) (N k : Nat) : Nat := if k < N then atS L (k + 1) else 0
theorem dec_at {L : List Int} {N : Nat} {a : Option Addr} {len cap : Nat} (hS : StopS L N) (hl : L.length = len) (hcap : len ≤ cap) (hm : cap ≤ 9223372036854775807) (k : Nat) (hk : k ≤ N) (w : World) (hb : Bys w (fun _ => False) a L) :
    Calls Tryd.prog 52 #[.slice a len cap, .int .i64 ((atS L k : Nat) : Int)] w fun e w' => e = .returned (.tuple #[.agg (cellsOq (cS L N k)), .int .i64 ((nxS L N k : Nat) : Int), .bool (decide (k < N))]) ∧ Below w.heap.size w w' := by
  by_cases h : k < N
  · have hp := hS.lt k h
    have hn := atS_next hp
    refine (dec_any L a len cap (atS L k) hl hcap hm (by omega) w hb).mono ?_
    rintro e w' ⟨rfl, hb'⟩
    refine ⟨?_, hb'⟩
    rw [hn.2.2, cS, if_pos h, nxS, if_pos h, decide_eq_true h]
    rfl
  · obtain rfl : k = N := by omega
    refine (dec_out a len cap _ (.inr (by have := hS.out; omega)) (by omega) w).mono ?_
    rintro e w' ⟨rfl, hb'⟩
    refine ⟨?_, hb'⟩
    rw [cS, if_neg h, nxS, if_neg h, decide_eq_false h]
    rfl

/-- In the midst of Decode: k operations are in the list; O is the iterator's own block. -/
structure Dq (w : World) (a : Option Addr) (len cap : Nat) (L : List Int) (k O : Nat) (W : World) : Prop where
  out : ∃ v, Blk W w.heap.size 25 #[v] ∧ OwnO W (w.heap.size + 2) v k (upS L k) ∧ v.ownBlock ≠ some O
  bb : Blk W (w.heap.size + 1) 22 #[.slice a len cap]
  below : Below w.heap.size w W
section
variable {w W W' : World} {a : Option Addr} {len cap : Nat} {L : List Int} {k O : Nat}
theorem Dq.big (h : Dq w a len cap L k O W) : w.heap.size + 2 ≤ W.heap.size := h.bb.lt
theorem Dq.turn {row : Option Nat} (h : Dq w a len cap L k O W) (hg : W.grownBy W' row) (hr : ∀ r, row = some r → w.heap.size ≤ r ∧ ∃ o : Obj, W.heap[r]? = some o ∧ o.isCells = false) : Dq w a len cap L k O W' := by
  have hr2 : ∀ r, row = some r → ∃ o : Obj, W.heap[r]? = some o ∧ o.isCells = false := fun r e => (hr r e).2
  obtain ⟨v, h1, h2, h3⟩ := h.out
  exact ⟨⟨v, blk_turn h1 hg hr2, owns_turn h2 hg hr2, h3⟩, blk_turn h.bb hg hr2, below_turn h.below h.below.size hg fun r e => (hr r e).1⟩
theorem Dq.up (h : Dq w a len cap L k O W) (hb : Below W.heap.size W W') : Dq w a len cap L k O W' := by
  obtain ⟨v, h1, h2, h3⟩ := h.out
  exact ⟨⟨v, h1.below hb h1.lt, h2.below hb, h3⟩, h.bb.below hb h.bb.lt, h.below.trans (hb.mono h.below.size)⟩
theorem Dq.row (h : Dq w a len cap L k O W) (hO : w.heap.size + 2 ≤ O) (cs : Array Value) : Dq w a len cap L k O (W.setRow O cs) := by
  obtain ⟨v, h1, h2, h3⟩ := h.out
  refine ⟨⟨v, h1.setRow_far (by omega) _, ownsR_same h2 fun i hi => ?_, h3⟩, h.bb.setRow_far (by omega) _, below_setRow h.below (by omega) _⟩
  exact setRow_other _ _ _ _ (fun e => h3 (by rw [hi, e]))
/-- One more is in the list. -/
theorem Dq.collect {v v' : Value} {w2 : World} {obj : Obj} (h : Dq w a len cap L k O W) (h1 : Blk W w.heap.size 25 #[v]) (h2 : OwnO W (w.heap.size + 2) v k (upS L k)) (h3 : v.ownBlock ≠ some O) (hO : O < W.heap.size)
    (o2 : OwnO w2 (w.heap.size + 2) v' (k + 1) (upS L k ++ [opS L k])) (hg : (W.alloc obj).grownBy w2 v.ownBlock) (hv : v'.ownBlock = v.ownBlock ∨ v'.ownBlock = some (W.alloc obj).heap.size) :
    Blk w2 w.heap.size 25 #[v] ∧ Dq w a len cap L (k + 1) O (w2.setCell ⟨w.heap.size, 0, none⟩ v') ∧ Kept (fun i => i = w.heap.size ∨ v.ownBlock = some i) W (w2.setCell ⟨w.heap.size, 0, none⟩ v') := by
  have hne : ∀ i, v.ownBlock = some i → w.heap.size + 2 ≤ i := fun i hi => h2.ge hi
  have k1 : Kept (fun i => v.ownBlock = some i) W w2 := ((Kept.refl _ W).alloc obj).trans (Kept.of_grown (S := fun i => v.ownBlock = some i) hg (fun i e => e.symm)) (fun _ _ e => e)
  have hb1 : Blk w2 w.heap.size 25 #[v] := h1.kept k1 (fun e => by have := hne _ e; omega)
  have bw : Below w.heap.size w w2 := Kept.below h.below k1 (fun i hi => by have := hne i hi; omega) h.below.size
  refine ⟨hb1, ⟨⟨v', hb1.set_ 0 v', ?_, ?_⟩, ?_, bw.setCell (Nat.le_refl _) _⟩, (k1.more fun i _ e => .inr e).setCell (.inl (.inl rfl)) _⟩
  · rw [upS_succ]
    exact ownsR_same o2 fun i hi => Below.heap_setCell _ _ _ i (fun e => by have := o2.ge hi; simp only at e; omega)
  · rcases hv with e | e
    · rw [e]; exact h3
    · rw [e]
      intro e2
      injection e2 with e2
      simp at e2
      omega
  · exact (h.bb.kept k1 (fun e => by have := hne _ e; omega)).far (by simp) _
end
def msr (len : Nat) (nx ok : Value) : Nat := match ok with | .bool true => len + 1 - (intOf nx).toNat | _ => 0
set_option maxHeartbeats 3200000 in
theorem ops_in {w : World} {a : Option Addr} {len cap : Nat} {L : List Int} {N : Nat} (F : Fence) (n : Nat) (hFw : F = Fence.wide) (hn : 3 ≤ n) (l : Nat) (Bk : World → Prop) (B0 : Nat) (hBk : ∀ A B, KeepsFrom B0 A B → Bk A → Bk B)
    (hS : StopS L N) (hl : L.length = len) (hcap : len ≤ cap) (hm : cap ≤ 9223372036854775807) (hb : Bys w (fun _ => False) a L)
    (hY : ∀ (x : Nat × Nat) W, Bk W → (x.1 < N ∧ w.heap.size + 2 ≤ x.2 ∧ Dq w a len cap L x.1 x.2 W ∧ Blk W x.2 35 (cellsOq (opS L x.1))) → YieldAt F (n - 1) Tryd.prog l #[.agg (cellsOq (opS L x.1))] W fun e W' => e = .returned (.bool true) ∧ Bk W' ∧ (x.1 < N ∧ w.heap.size + 2 ≤ x.2 ∧ Dq w a len cap L (x.1 + 1) x.2 W' ∧ Blk W' x.2 35 (cellsOq (opS L x.1))))
    (W : World) (h0 : Bk W) (hD : ∀ O, Dq w a len cap L 0 O W) :
    CallsIn F n Tryd.prog 51 #[.func (.yield l) #[] #[], .pointer (some ⟨w.heap.size + 1, 0, none⟩)] W fun e W' => (∃ v, e = .returned v) ∧ Bk W' ∧ ∃ O, Dq w a len cap L N O W' := by
  have h1 : 1 ≤ n := by omega
  have hro : F.round = none := by rw [hFw]; rfl
  have hf : ∀ k, F.fn k := fun k => by rw [hFw]; trivial
  have HC : Hid (∀ (f n : Nat) (args : Array Value) (w : World) (R : Ending → World → Prop), Calls Tryd.prog f args w R → CallsIn F n Tryd.prog f args w R) := Lib.hid (fun f n args w R h => by rw [hFw]; exact callsIn_wide.2 h)
  have HY := Lib.hid hY
  have HBK := Lib.hid hBk
  have HD := Lib.hid hD
  have HS := Lib.hid hS
  have HL := Lib.hid hl
  have HDA := Lib.hid (fun (k : Nat) (hk : k ≤ N) (W : World) (hw : Below w.heap.size w W) => dec_at (a := a) hS hl hcap hm k hk W (hb.below hw))
  have hc1 : W.cell? ⟨w.heap.size + 1, 0, none⟩ = some (.slice a len cap) := (hD 0).bb.cell 0
  have hd0 := HDA.out 0 (Nat.zero_le _) W (hD 0).below
  have HD0 : Hid (Calls Tryd.prog 52 #[.slice a len cap, .int .i64 0] W fun e w' => e = .returned (.tuple #[.agg (cellsOq (cS L N 0)), .int .i64 ((nxS L N 0 : Nat) : Int), .bool (decide (0 < N))]) ∧ Below W.heap.size W w') := Lib.hid hd0
  obtain ⟨t0, ht0⟩ : ∃ t, decide (0 < N) = t := ⟨_, rfl⟩
  obtain ⟨x0, hx0⟩ : ∃ x, nxS L N 0 = x := ⟨_, rfl⟩
  obtain ⟨c0, hc0⟩ : ∃ c, cS L N 0 = c := ⟨_, rfl⟩
  rw [ht0, hx0, hc0] at HD0
  have HT0 := Lib.hid (And.intro ht0 (And.intro hx0 hc0))
  clear hFw hY hBk hD hS hl hb hd0 ht0 hx0 hc0
  refine callsIn_of_wp Tryd.func51 rfl (hf _) ?_ hro
  simp only [Tryd.ntmps51, List.size_toArray, List.length_cons, List.length_nil, Nat.reduceAdd, Nat.reduceSub, Array.replicate_succ, Array.replicate_zero, List.push_toArray, List.append_toArray, List.nil_append, List.cons_append]
  gi_wp2_with (first | (gi_at_call 52; refine (HC.out _ _ _ _ _ HD0.out).mono ?_; rintro e w1 ⟨rfl, b1⟩; have B1 := Lib.hid b1; clear b1) | (refine wpListIn_store_row rfl _ _ _ rfl w1.heap.size (cellsOq c0) rfl rfl 35 _ (heap_alloc_new w1 _) infoOq rfl (cellsOq_one _) ?_; rw [World.setRow_alloc_new]))
  obtain ⟨O, hO⟩ : ∃ O, w1.heap.size = O := ⟨_, rfl⟩
  have ba : Below w1.heap.size w1 (w1.alloc (.cells (cellsOq c0) 35)) := (Below.refl _ _).alloc (Nat.le_refl _) _
  have D2 : Hid (Dq w a len cap L 0 O (w1.alloc (.cells (cellsOq c0) 35))) := Lib.hid (((HD.out O).up B1.out).up ba)
  have Q2 : Hid (Blk (w1.alloc (.cells (cellsOq c0) 35)) w1.heap.size 35 (cellsOq c0)) := Lib.hid (Blk.new w1 _ _)
  have K2 : Hid (Bk (w1.alloc (.cells (cellsOq c0) 35))) := Lib.hid (HBK.out _ _ (keepsFrom_below ba) (HBK.out _ _ (keepsFrom_below B1.out) h0))
  have ZO : Hid (w.heap.size + 2 ≤ O) := Lib.hid (by rw [← hO]; exact ((HD.out O).up B1.out).big)
  rw [hO] at Q2
  rw [hO]
  clear ba B1 HD0 hO h0 hc1 HD
  generalize w1.alloc (.cells (cellsOq c0) 35) = w2 at *
  gi_loopw [4, 5] (fun nx ok wr => ∃ (k x : Nat) (t : Bool) (c : Oq), k ≤ N ∧ nx = .int .i64 (x : Int) ∧ ok = .bool t ∧ Hid (decide (k < N) = t ∧ nxS L N k = x ∧ cS L N k = c) ∧ Hid (Bk wr) ∧ Hid (Dq w a len cap L k O wr) ∧ Hid (Blk wr O 35 (cellsOq c))) (fun nx ok _ => msr len nx ok)
  case atStart => exact ⟨0, x0, t0, c0, Nat.zero_le _, rfl, rfl, HT0, K2, D2, Q2⟩
  case round =>
    clear K2 D2 Q2 HT0
    obtain ⟨k, x, t, c, hk, rfl, rfl, HT, K3, D3, Q3⟩ := hrel
    rcases t with _ | _
    · have hkN : k = N := by have := HT.out.1; simp at this; omega
      have HKN := Lib.hid hkN
      clear hkN
      gi_wp2
      go_end0
      exact ⟨⟨_, rfl⟩, K3.out, O, by have := D3.out; rwa [HKN.out] at this⟩
    · have hlt : k < N := by have := HT.out.1; simpa using this
      have HLT := Lib.hid hlt
      have hcc : c = opS L k := by rw [← HT.out.2.2, cS, if_pos hlt]
      have hxx : x = atS L (k + 1) := by rw [← HT.out.2.1, nxS, if_pos hlt]
      have HNX := Lib.hid (atS_next (HS.out.lt k hlt))
      subst hcc
      have HX := Lib.hid hxx
      obtain ⟨fn, tmps, assign, body, hy, hR⟩ := HY.out (k, O) wr K3.out ⟨hlt, ZO.out, D3.out, Q3.out⟩
      dsimp only at hy hR
      have HR := Lib.hid hR
      clear hlt hxx hR
      gi_wp2_with (first | (refine wpListIn_load_rowG rfl 35 _ rfl O rfl 35 (cellsOq (opS L k)) (0, 0) _ Q3.out Tryd.underlying35 rfl infoOq ?_))
      refine HR.out.mono ?_
      rintro e w5 ⟨rfl, hb5, -, -, d5, q5⟩
      have hc5 : w5.cell? ⟨w.heap.size + 1, 0, none⟩ = some (.slice a len cap) := d5.bb.cell 0
      have HDX := HDA.out (k + 1) (by have := HLT.out; omega) w5 d5.below
      rw [← HX.out] at HDX
      obtain ⟨t', ht'⟩ : ∃ t, decide (k + 1 < N) = t := ⟨_, rfl⟩
      obtain ⟨x', hx'⟩ : ∃ x, nxS L N (k + 1) = x := ⟨_, rfl⟩
      obtain ⟨c', hc'⟩ : ∃ c, cS L N (k + 1) = c := ⟨_, rfl⟩
      rw [ht', hx', hc'] at HDX
      have HT' := Lib.hid (And.intro ht' (And.intro hx' hc'))
      have HDY := Lib.hid HDX
      have D5 := Lib.hid d5
      have Q5 := Lib.hid q5
      have K5 := Lib.hid hb5
      clear HDX ht' hx' hc' d5 q5 hb5 hy HR
      gi_wp2_with (first | (gi_at_call 52; refine (HC.out _ _ _ _ _ HDY.out).mono ?_; rintro e w6 ⟨rfl, b6⟩; have B6 := Lib.hid b6; have Q6 := Lib.hid (Q5.out.below b6 Q5.out.lt); clear b6) | (refine wpListIn_store_row rfl _ _ _ rfl O (cellsOq c') rfl rfl 35 _ Q6.out infoOq rfl (cellsOq_one _) ?_))
      go_roundw
      case rel =>
        refine ⟨k + 1, x', t', c', by have := HLT.out; omega, rfl, rfl, HT', Lib.hid (HBK.out _ _ ?_ (HBK.out _ _ (keepsFrom_below B6.out) K5.out)), Lib.hid ((D5.out.up B6.out).row ZO.out _), Lib.hid (Q6.out.setRow _)⟩
        exact keepsFrom_of (S := fun i => i = O) (Kept.setRow (S := fun i => i = O) (Kept.refl _ _) (.inl rfl) _) fun i _ e => by rw [e]; exact ⟨_, _, Q6.out⟩
      case measure =>
        have h1 := HNX.out
        have h2 := HX.out
        have h3 := HL.out
        rcases t' with _ | _
        · simp [msr, intOf]; omega
        · have h4 : k + 1 < N := by have := HT'.out.1; simpa using this
          have h5 := atS_next (HS.out.lt (k + 1) h4)
          have h6 : x' = atS L (k + 1 + 1) := by rw [← HT'.out.2.1, nxS, if_pos h4]
          simp [msr, intOf]; omega
theorem operations_any (a : Option Addr) (len cap : Nat) (w : World) : Calls Tryd.prog 26 #[.slice a len cap] w fun e w' => e = .returned (.func (.func 51) #[] #[.pointer (some ⟨w.heap.size, 0, none⟩)]) ∧ w' = w.alloc (.cells #[.slice a len cap] 22) := by
  have hmf : ∀ (fn : Fn) (first cap : Array Value) (w : World), (Instr.makeFunc fn first cap).run Tryd.prog w = .ok (.func fn first cap) w := fun _ _ _ _ => rfl
  go_enter Tryd.func26, Tryd.ntmps26
  go_wp2
  go_ret
  exact ⟨rfl, rfl⟩
/-- What Decode leaves. -/
def DecPost (w : World) (N : Nat) (L : List Int) (e : Ending) (w' : World) : Prop := ∃ v, e = .returned v ∧ OwnO w' w.heap.size v N (upS L N) ∧ Below w.heap.size w w'
def roundA (w : World) (a : Option Addr) (len cap : Nat) (L : List Int) (k B : Nat) : Act :=
  { tmps := #[.slice a len cap, undef, .slice none 0 0, .pointer (some ⟨w.heap.size, 0, none⟩), .pointer (some ⟨B, 0, none⟩), .slice a len cap, .func (.func 51) #[] #[.pointer (some ⟨w.heap.size + 1, 0, none⟩)], .agg (cellsOq (opS L k)), undef, undef, undef, undef, undef], defers := [] }
set_option maxHeartbeats 3200000 in
theorem decs_in {L : List Int} {N : Nat} {a : Option Addr} {len cap : Nat} (F : Fence) (n : Nat) (hFw : F = Fence.wide) (hn : 6 ≤ n) (hS : StopS L N) (hl : L.length = len) (hcap : len ≤ cap) (hm : cap ≤ 9223372036854775807) (hlm : len ≤ 100000) (w : World) (hb : Bys w (fun _ => False) a L) :
    CallsIn F n Tryd.prog 11 #[.slice a len cap] w (DecPost w N L) := by
  have h1 : 1 ≤ n := by omega
  have hro : F.round = none := by rw [hFw]; rfl
  have hf : ∀ k, F.fn k := fun k => by rw [hFw]; trivial
  have HC : Hid (∀ (f n : Nat) (args : Array Value) (w : World) (R : Ending → World → Prop), Calls Tryd.prog f args w R → CallsIn F n Tryd.prog f args w R) := Lib.hid (fun f n args w R h => by rw [hFw]; exact callsIn_wide.2 h)
  have HNL : Hid (N ≤ 100000) := Lib.hid (by have := stopS_le hS; omega)
  have hD0 : ∀ O, Dq w a len cap L 0 O ((w.alloc (.cells #[.slice none 0 0] 25)).alloc (.cells #[.slice a len cap] 22)) := fun O => by
    have n2 := Blk.new (w.alloc (.cells #[.slice none 0 0] 25)) 22 #[.slice a len cap]
    rw [World.size_alloc] at n2
    exact ⟨⟨.slice none 0 0, (Blk.new w 25 #[.slice none 0 0]).alloc _, OwnO.nil _ _, by intro e; cases e⟩, n2, ((Below.refl _ _).alloc (Nat.le_refl _) _).alloc (by simp) _⟩
  have HD0 := Lib.hid hD0
  have hz : ((w.alloc (.cells #[.slice none 0 0] 25)).alloc (.cells #[.slice a len cap] 22)).heap.size = w.heap.size + 2 := by simp
  have HZ := Lib.hid hz
  have HOI := Lib.hid (fun l Bk B0 hBk => ops_in (w := w) (N := N) F (n - 1) hFw (by omega) l Bk B0 hBk hS hl hcap hm hb)
  clear hFw hD0 hz hS hl hb
  refine callsIn_of_wp_marks Tryd.func11 rfl (hf _) ?_ hro
  simp only [Tryd.ntmps11, List.size_toArray, List.length_cons, List.length_nil, Nat.reduceAdd, Nat.reduceSub, Array.replicate_succ, Array.replicate_zero, List.push_toArray, List.append_toArray, List.nil_append, List.cons_append]
  gi_wp2_with (first | (gi_at_call 26; refine (HC.out _ _ _ _ _ (operations_any a len cap _)).mono ?_; rintro e w2 ⟨rfl, rfl⟩))
  generalize (w.alloc (.cells #[.slice none 0 0] 25)).alloc (.cells #[.slice a len cap] 22) = W at *
  have hz := HZ.out
  refine wpIn_rangeFunc_jointH hro h1 (gf := 51) (lb := #[.pointer (some ⟨w.heap.size + 1, 0, none⟩)]) rfl (hf _) (enters_of Tryd.func51 (by kernel_rfl) rfl)
    (encs := fun x : Nat × Nat => #[.agg (cellsOq (opS L x.1))]) (fun _ => rfl)
    (fun x W => x.1 < N ∧ w.heap.size + 2 ≤ x.2 ∧ Dq w a len cap L x.1 x.2 W ∧ Blk W x.2 35 (cellsOq (opS L x.1)))
    (fun x W => x.1 < N ∧ w.heap.size + 2 ≤ x.2 ∧ Dq w a len cap L (x.1 + 1) x.2 W ∧ Blk W x.2 35 (cellsOq (opS L x.1)))
    (fun y W => (y.1.1 < N ∧ w.heap.size + 2 ≤ y.1.2 ∧ Dq w a len cap L y.1.1 y.1.2 W ∧ Blk W y.1.2 35 (cellsOq (opS L y.1.1))) ∧ ∃ B, y.2 = roundA w a len cap L y.1.1 B ∧ Blk W B 35 (cellsOq (opS L y.1.1)))
    (fun W => ∃ O, Dq w a len cap L N O W)
    (fun s A B' row h hg hr => ⟨⟨h.1.1, h.1.2.1, h.1.2.2.1.turn hg (fun r e => ⟨by have := (hr r e).1; omega, (hr r e).2⟩), blk_turn h.1.2.2.2 hg (fun r e => (hr r e).2)⟩, h.2.imp fun B hB => ⟨hB.1, blk_turn hB.2 hg (fun r e => (hr r e).2)⟩⟩)
    (fun s A B' row h hg hr => ⟨h.1, h.2.1, h.2.2.1.turn hg (fun r e => ⟨by have := (hr r e).1; omega, (hr r e).2⟩), blk_turn h.2.2.2 hg (fun r e => (hr r e).2)⟩)
    (fun s A B' row h hg hr => h.imp fun O h => h.turn hg (fun r e => ⟨by have := (hr r e).1; omega, (hr r e).2⟩))
    ?assign ?body ?it ?done
  case assign =>
    rintro l ⟨k, O⟩ W1 K ht hK
    gi_wp2_with (refine wpListIn_store_row rfl _ _ _ rfl W1.heap.size (cellsOq (opS L k)) rfl rfl 35 _ (heap_alloc_new W1 _) infoOq rfl (cellsOq_one _) ?_; rw [World.setRow_alloc_new])
    have ba : Below W1.heap.size W1 (W1.alloc (.cells (cellsOq (opS L k)) 35)) := (Below.refl _ _).alloc (Nat.le_refl _) _
    exact hK _ _ (keepsFrom_below ba) ⟨⟨ht.1, ht.2.1, ht.2.2.1.up ba, ht.2.2.2.below ba ht.2.2.2.lt⟩, W1.heap.size, rfl, Blk.new W1 _ _⟩
  case body =>
    rintro l ⟨k, O⟩ a' W1 ⟨⟨hk, hO, hd, ho⟩, B, ha', hb⟩
    simp only at ha' hd ho hb hk hO
    subst ha'
    obtain ⟨v, h1v, h2v, h3v⟩ := hd.out
    have hc : W1.cell? ⟨w.heap.size, 0, none⟩ = some v := h1v.cell 0
    have ba : Below W1.heap.size W1 (W1.alloc (.cells (cellsOq (opS L k)) 35)) := (Below.refl _ _).alloc (Nat.le_refl _) _
    have O1 : Hid (OwnO (W1.alloc (.cells (cellsOq (opS L k)) 35)) (w.heap.size + 2) v k (upS L k)) := Lib.hid (h2v.below ba)
    have L1 := Lib.hid (lstO_one W1 (fun _ => False) (opS L k) (fun h => h))
    have HB := Lib.hid hb
    have HOO := Lib.hid ho
    have HOL := Lib.hid ho.lt
    have HCO := Lib.hid (fun (v' : Value) (w2 : World) => Dq.collect (v' := v') (w2 := w2) (obj := .cells (cellsOq (opS L k)) 35) hd h1v h2v h3v ho.lt)
    have HKN : Hid (k + 1 ≤ 4000000) := Lib.hid (by have := HNL.out; omega)
    have HBS : Hid (w.heap.size + 2 ≤ (W1.alloc (.cells (cellsOq (opS L k)) 35)).heap.size) := Lib.hid (by have := hd.big; simp; omega)
    have HKB : Hid (w.heap.size + 2 ≤ O ∧ k < N) := Lib.hid ⟨hO, hk⟩
    have HOW := Lib.hid h2v
    have HV3 := Lib.hid h3v
    have HV1 := Lib.hid h1v
    clear hd ho hb hk hO h1v h2v h3v ba HOI
    unfold roundA
    generalize opS L k = o at *
    gi_wp2_with (first | (refine wpListIn_load_row rfl 35 _ rfl B rfl 35 (cellsOq o) (0, 0) _ HB.out Tryd.underlying35 rfl infoOq ?_) | (refine wpListIn_oneOq rfl _ o rfl rfl ?_) | (refine armIn_appO O1.out L1.out rfl _ _ rfl rfl rfl rfl HKN.out HBS.out ?_; intro v4 w4 q1 q2 q3; obtain ⟨c1, c2, c3⟩ := HCO.out v4 w4 q1 q2 q3; have C1 := Lib.hid c1; have C2 := Lib.hid c2; have C3 := Lib.hid c3; have hc4 : w4.cell? ⟨w.heap.size, 0, none⟩ = some v := c1.cell 0; have hf4 : w4.frozen? ⟨w.heap.size, 0, none⟩ = false := c1.frozen 0; obtain ⟨a4, p4, rfl, _, _⟩ := ownsR_slice q1; clear q1 q2 q3 c1 c2 c3))
    refine ⟨keepsFrom_of C3.out (fun i _ hi => ?_), HKB.out.2, HKB.out.1, C2.out, HOO.out.kept C3.out (fun h => ?_)⟩
    · rcases hi with rfl | hi
      · exact ⟨_, _, HV1.out⟩
      · obtain ⟨cur, hcur, _⟩ := ownsR_blk HOW.out hi
        exact ⟨_, _, hcur⟩
    · rcases h with h | h
      · have := HKB.out.1; omega
      · exact HV3.out h
  case it =>
    intro l Bk hBk hY W1 hb hbl
    exact HOI.out l Bk W.heap.size hBk hY W1 hb (fun O => (HD0.out O).turn (only_of_below hbl none) (fun r e => by cases e))
  case done =>
    rintro D W2 hD ⟨O, hs⟩ hK
    obtain ⟨v, h1v, h2v, h3v⟩ := hs.out
    have hc : W2.cell? ⟨w.heap.size, 0, none⟩ = some v := h1v.cell 0
    have HS2 := Lib.hid (hs.turn (grownBy_putObj' W2 D (.deferred none)) (fun r e => by cases e; exact ⟨by omega, _, hK, rfl⟩))
    have HO2 : Hid (OwnO (W2.putObj D (.deferred none)) (w.heap.size + 2) v N (upS L N)) := Lib.hid (owns_turn h2v (grownBy_putObj' W2 D (.deferred none)) (fun r e => by cases e; exact ⟨_, hK, rfl⟩))
    clear hs h1v h2v h3v HOI HD0 HZ hz
    gi_wp2
    refine ⟨by simp, .inl ⟨_, _, rfl, run_takeDeferred hK, ?_⟩⟩
    exact ⟨_, results_tmp rfl _ _ _, v, rfl, ownsR_base HO2.out (by omega), HS2.out.below⟩
/-- Decode. -/
theorem decs_any {L : List Int} {N : Nat} {a : Option Addr} {len cap : Nat} (hS : StopS L N) (hl : L.length = len) (hcap : len ≤ cap) (hm : cap ≤ 9223372036854775807) (hlm : len ≤ 100000) (w : World) (hb : Bys w (fun _ => False) a L) :
    Calls Tryd.prog 11 #[.slice a len cap] w (DecPost w N L) :=
  (callsIn_wide (n := 6)).1 (decs_in Fence.wide 6 rfl (Nat.le_refl _) hS hl hcap hm hlm w hb)
end Go.Proofs.YtniehmlklbggdaaDoor
