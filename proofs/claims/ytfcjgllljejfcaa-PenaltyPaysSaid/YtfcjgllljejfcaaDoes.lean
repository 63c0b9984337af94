/- What a function value does to a validator; the makers; apply. -/
import Derived.Test.YtfcjgllljejfcaaEff2
import Derived.LoopTactic
namespace Go.Proofs.Ytfcjgllljejfcaa
open Go Go.RowKit
set_option linter.unusedVariables false
set_option linter.unusedSimpArgs false
set_option maxRecDepth 100000

theorem wpList_build_val {P : Program} {ops : Array Oper} {rest : List Oper} {o : Oper} {a : Act} {w : World} {Q : Exit → Act → World → Prop} (hg : o.guard = none) (t : TypeId) (parts : Array (Nat × Operand)) (ho : o.op = .build t parts) (v : Val)
    (hf : P.built t (parts.map fun (i, x) => (i, a.eval x)).toList = some (cellsV v)) (h : wpList P ops Q rest (a.put o.dst (.agg (cellsV v))) w) : wpList P ops Q (o :: rest) a w :=
  wpList_build hg t parts ho (by rw [hf]; rfl) (by rw [hf]; exact h)

def StOk (x : Val) : Prop := (Lit.int .i64 x.st).wf = true
/-- f, called with a validator that is no older than w, does to it what e says. -/
def FDoes (w : World) (f : Value) (e : Eff) : Prop :=
  ∃ (F : Nat) (caps : Array Value), f = .func (.func F) #[] caps ∧ (∀ args w, (callFunc F args).run Try.prog w = .ok (.enter F args) w) ∧ (∀ x, StOk x → StOk (e x).2) ∧
    ∀ w1 b x, Below w.heap.size w w1 → w.heap.size ≤ b → VB w1 b x → StOk x →
      Calls Try.prog F (#[.pointer (some ⟨b, 0, none⟩)] ++ caps) w1 fun o w2 => o = .returned (.int .i64 (e x).1) ∧ VB w2 b (e x).2 ∧ w1.grownBy w2 (some b)
theorem FDoes.below {w w' : World} {f : Value} {e : Eff} (h : FDoes w f e) (hb : Below w.heap.size w w') : FDoes w' f e := by
  obtain ⟨F, caps, h1, h2, h3, h4⟩ := h
  exact ⟨F, caps, h1, h2, h3, fun w1 b x hb1 hg hv hs => h4 w1 b x (hb.trans (hb1.mono hb.size)) (Nat.le_trans hb.size hg) hv hs⟩
section
variable {w : World}
theorem old_cell {w w1 : World} {g : Nat} {v : Value} (h : w.cell? ⟨g, 0, none⟩ = some v) (hb : Below w.heap.size w w1) : w1.cell? ⟨g, 0, none⟩ = some v :=
  (hb.cell (p := ⟨g, 0, none⟩) (cell_lt h)).trans h
theorem pass_does {g : Nat} {ev : Int} (he : (Lit.int .i64 ev).wf = true) (h : w.cell? ⟨g, 0, none⟩ = some (.int .i64 ev)) : FDoes w (.func (.func 43) #[] #[.pointer (some ⟨g, 0, none⟩)]) (passE ev) :=
  ⟨_, _, rfl, Try.call43, fun x hx => by unfold passE; split; exact hx; exact refN_wf _ _, fun w1 b x hb hg hv hs => pass1_any ev x w1 hs he hv (old_cell h hb)⟩
theorem request_does {g : Nat} {e : Int} (h : w.cell? ⟨g, 0, none⟩ = some (.int .i64 e)) : FDoes w (.func (.func 41) #[] #[.pointer (some ⟨g, 0, none⟩)]) (requestE e) :=
  ⟨_, _, rfl, Try.call41, fun x hx => by unfold requestE; split <;> exact hx, fun w1 b x hb hg hv hs => request1_any e x w1 hv (old_cell h hb)⟩
theorem schedule_does {g : Nat} {e : Int} (h : w.cell? ⟨g, 0, none⟩ = some (.int .i64 e)) : FDoes w (.func (.func 45) #[] #[.pointer (some ⟨g, 0, none⟩)]) (scheduleE e) :=
  ⟨_, _, rfl, Try.call45, fun x hx => by unfold scheduleE; split <;> exact hx, fun w1 b x hb hg hv hs => schedule1_any e x w1 hv (old_cell h hb)⟩
theorem ripe_does {g : Nat} {e : Int} (h : w.cell? ⟨g, 0, none⟩ = some (.int .i64 e)) : FDoes w (.func (.func 49) #[] #[.pointer (some ⟨g, 0, none⟩)]) (ripeE e) :=
  ⟨_, _, rfl, Try.call49, fun x hx => by unfold ripeE; split <;> exact hx, fun w1 b x hb hg hv hs => ripe1_any e x w1 hv (old_cell h hb)⟩
theorem hold_does {g g2 : Nat} {e n : Int} (h0 : 0 ≤ n) (h1 : n ≤ 9223372036854775807) (h : w.cell? ⟨g, 0, none⟩ = some (.int .i64 e)) (h2 : w.cell? ⟨g2, 0, none⟩ = some (.int .i64 n)) :
    FDoes w (.func (.func 46) #[] #[.pointer (some ⟨g, 0, none⟩), .pointer (some ⟨g2, 0, none⟩)]) (holdE e n) :=
  ⟨_, _, rfl, Try.call46, fun x hx => by unfold holdE; split <;> exact hx, fun w1 b x hb hg hv hs => hold1_any e n x w1 h0 h1 hv (old_cell h hb) (old_cell h2 hb)⟩
theorem mark_does : FDoes w (.func (.func 33) #[] #[]) markE :=
  ⟨_, _, rfl, Try.call33, fun x hx => by unfold markE; split <;> exact hx, fun w1 b x hb hg hv hs => mark_any x w1 hv⟩
end

/-- Changes one after another, up to the first error. -/
def runE : List Eff → Eff
  | [], x => (0, x)
  | e :: es, x => if (e x).1 = 0 then runE es (e x).2 else ((e x).1, val0)
theorem runE_drop {es : List Eff} {k : Nat} {e : Eff} {x : Val} (h : es[k]? = some e) : runE (es.drop k) x = if (e x).1 = 0 then runE (es.drop (k + 1)) (e x).2 else ((e x).1, val0) := by
  obtain ⟨hk, rfl⟩ := List.getElem?_eq_some_iff.1 h
  rw [List.drop_eq_getElem_cons hk]
  rfl
/-- The elements of a slice do what es says. -/
def Changes (w : World) (a : Option Addr) (es : List Eff) : Prop :=
  ∃ g off, a = some ⟨g, off, none⟩ ∧ ∀ i e, es[i]? = some e → ∃ f, w.cell? ⟨g, off + i, none⟩ = some f ∧ FDoes w f e
theorem Changes.below {w w' : World} {a : Option Addr} {es : List Eff} (h : Changes w a es) (hb : Below w.heap.size w w') : Changes w' a es := by
  obtain ⟨g, off, rfl, h⟩ := h
  refine ⟨g, off, rfl, fun i e hi => ?_⟩
  obtain ⟨f, h1, h2⟩ := h i e hi
  exact ⟨f, (hb.cell (p := ⟨g, off + i, none⟩) (cell_lt h1)).trans h1, h2.below hb⟩
set_option maxHeartbeats 1600000 in
theorem apply_any (es : List Eff) (a : Option Addr) (cap : Nat) (v : Val) (w : World) (hv : StOk v) (hlen : es.length ≤ 1000) (hc : Changes w a es) :
    Calls Try.prog 25 #[.agg (cellsV v), .slice a es.length cap] w fun o w' => o = .returned (.tuple #[.agg (cellsV (runE es v).2), .int .i64 (runE es v).1]) ∧ Below w.heap.size w w' := by
  have HC := Lib.hid hc
  have HV := Lib.hid hv
  obtain ⟨len, hl⟩ : ∃ len, es.length = len := ⟨_, rfl⟩
  rw [hl] at hlen ⊢
  have HLN := Lib.hid hl
  clear hc hv hl
  go_enter Try.func25, Try.ntmps25
  go_wp2
  go_loopw [11] (fun s11 wr => ∃ (k : Nat) (x : Val), k ≤ len ∧ s11 = .int .i64 k ∧ Hid (runE es v = runE (es.drop k) x) ∧ Hid (StOk x) ∧ Hid (VB wr w.heap.size x) ∧ Hid (VB wr (w.heap.size + 1) val0) ∧ Hid (Below w.heap.size w wr)) (fun s11 _ => len - (intOf s11).toNat)
  case atStart =>
    refine ⟨0, v, by omega, rfl, Lib.hid rfl, HV, Lib.hid ?_, Lib.hid ?_, Lib.hid ?_⟩
    · exact Blk.alloc (Blk.new w _ _) _
    · have := Blk.new (w.alloc (.cells (cellsV v) 28)) 28 (cellsV val0)
      rw [show (w.alloc (.cells (cellsV v) 28)).heap.size = w.heap.size + 1 by simp] at this
      exact this
    · exact ((Below.refl _ _).alloc (Nat.le_refl _) _).alloc (by simp) _
  case round =>
    obtain ⟨k, x, hk, rfl, HR, HS, HB, HZ, HW⟩ := hrel
    by_cases hlt : k < len
    · obtain ⟨g, off, rfl, hall⟩ := HC.out
      obtain ⟨e, he⟩ : ∃ e, es[k]? = some e := ⟨_, List.getElem?_eq_getElem (by rw [HLN.out]; exact hlt)⟩
      obtain ⟨f, hf, hd⟩ := hall k e he
      obtain ⟨F, caps, rfl, hen, hst, hcall⟩ := hd
      have hcell : wr.cell? ⟨g, off + k, none⟩ = some (.func (.func F) #[] caps) := (HW.out.cell (p := ⟨g, off + k, none⟩) (cell_lt hf)).trans hf
      have HX := Lib.hid (hcall wr w.heap.size x HW.out (Nat.le_refl _) HB.out HS.out)
      have HD := Lib.hid (runE_drop (x := x) he)
      have HN := Lib.hid (hst x HS.out)
      clear hall hcall hst hf
      generalize hq : e x = q at HX HD HN
      obtain ⟨cd, y⟩ := q
      clear hq
      simp only at HX HD HN
      by_cases h0 : cd = 0
      · have HT : Hid (runE es v = runE (es.drop (k + 1)) y) := Lib.hid (by rw [HR.out, HD.out, if_pos h0])
        have hc0 : (cd != 0) = false := by simpa using h0
        subst h0
        go_wp2_with fail
        refine HX.out.mono ?_
        rintro o w2 ⟨rfl, hv2, hg2⟩
        have K2 := Lib.hid (below_only HW.out hg2 HW.out.size (Nat.le_refl _))
        have Z2 := Lib.hid (Blk.grown HZ.out hg2 (by simp))
        have V2 := Lib.hid hv2
        clear hv2 hg2 HX HW HZ HB HD HR hc0
        go_wp2
        go_roundw
        case rel => exact ⟨k + 1, y, by omega, by go_num, HT, HN, V2, Z2, K2⟩
        case measure => simp [intOf]; omega
      · have HT : Hid (runE es v = (cd, val0)) := Lib.hid (by rw [HR.out, HD.out, if_neg h0])
        have hc0 : (cd != 0) = true := by simpa using h0
        clear h0
        go_wp2_with fail
        refine HX.out.mono ?_
        rintro o w2 ⟨rfl, hv2, hg2⟩
        have K2 := Lib.hid (below_only HW.out hg2 HW.out.size (Nat.le_refl _))
        have Z2 := Lib.hid (Blk.grown HZ.out hg2 (by simp))
        clear hv2 hg2 HX HW HZ HB HD HR
        go_wp2_with (first | (refine wpList_build_val rfl 28 _ rfl val0 (by kernel_rfl) ?_) | (refine wpList_store_row rfl _ _ _ rfl (w.heap.size + 1) (cellsV val0) rfl rfl 28 _ Z2.out infoV rfl (cellsV_one val0) ?_))
        rw [HT.out]
        exact bodyPost_ret (v := .tuple #[.agg (cellsV val0), .int .i64 cd]) (results_cell_row2 (fn := Try.f25) rfl _ _ (w.heap.size + 1) 28 _ (0, 0) _ rfl (setRow_heap _ _ _ _ _ _ Z2.out) Try.underlying28 rfl infoV) rfl ⟨rfl, below_setRow K2.out (by omega) _⟩
    · obtain rfl : k = len := by omega
      have HE : Hid (runE es v = (0, x)) := Lib.hid (by rw [HR.out, List.drop_of_length_le (by rw [HLN.out]; exact Nat.le_refl _)]; rfl)
      clear hlt
      have hlt : ¬ k < k := by omega
      go_wp2_with (first | (refine wpList_load_row rfl 28 _ rfl w.heap.size rfl 28 _ (0, 0) _ HB.out Try.underlying28 rfl infoV ?_) | (refine wpList_store_row rfl _ _ _ rfl (w.heap.size + 1) (cellsV x) rfl rfl 28 _ HZ.out infoV rfl (cellsV_one x) ?_))
      rw [HE.out]
      exact bodyPost_ret (v := .tuple #[.agg (cellsV x), .int .i64 0]) (results_cell_row2 (fn := Try.f25) rfl _ _ (w.heap.size + 1) 28 _ (0, 0) _ rfl (setRow_heap _ _ _ _ _ _ HZ.out) Try.underlying28 rfl infoV) rfl ⟨rfl, below_setRow HW.out (by omega) _⟩
end Go.Proofs.Ytfcjgllljejfcaa
