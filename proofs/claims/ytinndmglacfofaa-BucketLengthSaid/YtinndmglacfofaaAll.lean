/- All's walk. -/
import Derived.Test.YtinndmglacfofaaAllB
namespace Go.Proofs.Ytinndmglacfofaa
open Go Go.RowKit Go.Deep Go.Shelf
set_option linter.unusedVariables false
set_option linter.unusedSimpArgs false

attribute [local go_sem] Oper.semAt_some

/-- What All hands back. -/
def AllPost (w : World) (L : List Ent) (e : Ending) (w' : World) : Prop :=
  ∃ v t, e = .returned v ∧ Srt t ∧ Stab L t ∧ w'.ownsRow w.heap.size 46 2 v L.length (flat t) ∧ Below w.heap.size w w'

set_option maxRecDepth 100000 in
set_option maxHeartbeats 4000000 in
theorem all_in (F : Fence) (n : Nat) (hFw : F = Fence.wide) (hn : 4 ≤ n) (b B m : Nat) (ss : List Value) (L : List Ent) (w : World) (hp : RingP w b B m ss L) (hL : L.length ≤ 10000) :
    CallsIn F n Try.prog 18 #[.pointer (some ⟨b, 0, none⟩)] w (AllPost w L) := by
  have h1 : 1 ≤ n := by omega
  have hro : F.round = none := by rw [hFw]; rfl
  have hf : ∀ k, F.fn k := fun k => by rw [hFw]; trivial
  have f26 := hf 26
  have f25 := hf 25
  have HS26 : Hid (∀ (n : Nat) (args : Array Value) (w : World) (R : Ending → World → Prop), Calls Try.prog 26 args w R → CallsIn F n Try.prog 26 args w R) := Lib.hid (fun n args w R h => by rw [hFw]; exact callsIn_wide.2 h)
  clear hFw
  refine callsIn_of_wp_marks Try.func18 rfl (hf _) ?_ hro
  have x0 := cell_alloc_some (.cells #[.slice none 0 0] 43) (hp.own.cell 0)
  obtain ⟨i0, hi, hz0, hz1, hz2⟩ := ent_app
  simp only [Try.ntmps18, List.size_toArray, List.length_cons, List.length_nil, Nat.reduceAdd, Nat.reduceSub, Array.replicate_succ, Array.replicate_zero, List.push_toArray, List.append_toArray, List.nil_append, List.cons_append]
  gi_wp2_with (gi_at_call 25; refine (each_in F (n - 1) (hf _) (hf _) hro (by omega) b m m (some ⟨B, 0, none⟩) _ x0).mono ?_; rintro e w' ⟨rfl, rfl⟩)
  have bO := Boxed.new w 43 (.slice none 0 0)
  have bN := Boxed.new (w.alloc (.cells #[.slice none 0 0] 43)) 55 (.slice (some ⟨B, 0, none⟩) m m)
  rw [World.size_alloc] at bN
  have hB0 : Below w.heap.size w ((w.alloc (.cells #[.slice none 0 0] 43)).alloc (.cells #[.slice (some ⟨B, 0, none⟩) m m] 55)) := ((Below.refl _ w).alloc (Nat.le_refl _) _).alloc (by simp) _
  have hp2 : RingP ((w.alloc (.cells #[.slice none 0 0] 43)).alloc (.cells #[.slice (some ⟨B, 0, none⟩) m m] 55)) b B m ss L := hp.same (hB0.block _ hp.own.lt) (hB0.block _ hp.bks.lt) (fun s hs i hi => hB0.block _ (hp.lt hs hi))
  refine wpIn_rangeFunc_ownG hro h1 (gf := 33) (lb := #[.pointer (some ⟨w.heap.size + 1, 0, none⟩)]) rfl (hf _) (enters_of Try.func33 (by kernel_rfl) rfl)
    (buckets_stops F (n - 1) (hf _) hro (by omega) (w.heap.size + 1) w.heap.size b B m ss L _ (by simp) (by simp; omega) bN.cell hp2 hp.bks.lt) belowK_t (belowK_b (by simp; omega)) (Below.refl _ _) (fun _ => rfl)
    (fun pre W => (∃ v, Boxed W w.heap.size 43 v ∧ W.ownsRow w.heap.size 46 2 v (ents m L pre).length (flat (ents m L pre)) ∧ True) ∧ Below w.heap.size w W)
    (fun _ _ _ => False)
    (OwnFrom.and (Own.from (holdsRow_own w.heap.size w.heap.size 43 46 2 (fun pre => (ents m L pre).length) (fun pre => flat (ents m L pre)) (fun _ _ => True)) _) (ownFrom_below (Nat.le_refl _) (by simp; omega)))
    (fun _ _ _ _ _ hs _ _ => hs)
    ⟨⟨_, bO.alloc _, World.ownsRow_nil _ _ _ _, trivial⟩, hB0⟩
    (fun x => { tmps := #[.pointer (some ⟨b, 0, none⟩), undef, .slice none 0 0, .pointer (some ⟨w.heap.size, 0, none⟩), nth ss x.1, .pointer (some ⟨b, 0, none⟩), .func (.func 33) #[] #[.pointer (some ⟨w.heap.size + 1, 0, none⟩)], nth ss x.1, undef, undef, undef, undef, undef, undef], defers := [] }) ?assign ?body ?done ?stop
  case assign =>
    intro l x W K hK
    gi_wp2
    exact hK
  case body =>
    rintro l pre x W ⟨⟨v, hv, hrow, -⟩, hB⟩ hpl
    obtain ⟨s, hs⟩ := hp.get x.2
    have hq := bk_len m L x.1
    obtain ⟨a, cp, rfl, hcp, hcp2⟩ := owns_slice (hp.row x.1 s hs)
    have hnt := nth_of hs
    have hlst : Lst W (fun _ => False) a (bk m L x.1) := (owns_lst (S := fun _ => False) (hp.row x.1 _ hs) (fun _ _ h => h)).below hB
    have hle := ents_le m L pre
    have hpl2 : pre.length * L.length ≤ 4096 * 10000 := Nat.mul_le_mul (by have := hp.top; omega) hL
    have hes := ents_snoc m L pre x
    have hlen := flat_len (bk m L x.1)
    have HL := Lib.hid hlst
    have HES := Lib.hid hes
    have HFL := Lib.hid hlen
    have hc := hv.cell
    clear hs hlst hes hlen
    try dsimp only
    rw [hnt]
    gi_wp2_with (gi_at_builtin; (refine wpListIn_append_src _ rfl (.tmp 8) (.tmp 9) 43 rfl w.heap.size 46 i0 _ 2 16 Try.underlying43 hi hz0 hz1 hz2 rfl (by decide) v (ents m L pre).length _ rfl hrow a (bk m L x.1).length cp (flat (bk m L x.1)) rfl HFL.out (fun h0 => HL.out.flat h0) flat_mem (by unfold maxLen; omega) (by omega) hB.size ?_; intro v' w1 hown' hgrow; obtain ⟨a', cp', rfl, -, -⟩ := owns_slice (owns_base hown' (Nat.zero_le _)); obtain ⟨hv1, hv2, hr2, hk2, hb2⟩ := boxed_appended0 hv (by decide) hrow hB.size (Nat.le_refl _) hown' hgrow; have hc1 := hv1.cell; have hf1 := hv1.frozen))
    exact ⟨hk2.from _, hb2, ⟨_, hv2, by rw [HES.out, List.length_append, flat_append]; exact hr2, trivial⟩, hB.trans hb2⟩
  case done =>
    rintro D ys W hD rfl ⟨⟨v, hv, hrow, -⟩, hB⟩ hK
    have hst := ents_stab hp.pos L
    have hlen := hst.len
    have hc := hv.cell
    rw [← hlen] at hrow
    have hS : Calls Try.prog 26 #[v, cmpF] W fun e w' => e = .returned (.tuple #[]) ∧ ∃ t, Srt t ∧ Stab L t ∧ w'.ownsRow w.heap.size 46 2 v L.length (flat t) ∧ Kept (fun i => v.ownBlock = some i) W w' := by
      rw [hlen] at hrow
      refine (sort_owned w.heap.size v (ents m L (upto m m)) W hrow (by omega)).mono ?_
      rintro e w' ⟨he, t, q1, q2, q3, q4⟩
      exact ⟨he, t, q1, hst.trans q2, by rw [hlen]; exact q3, q4⟩
    have HS := Lib.hid hS
    have hbw : v.ownBlock ≠ some w.heap.size := fun e => (hv.not_row (by decide) hrow) e.symm
    have hbD : v.ownBlock ≠ some D := fun e => by
      rcases hrow.2 with ⟨h, _⟩ | ⟨g, cp, cur, h, _, hg, _⟩
      · rw [h] at e; cases e
      · rw [h] at e
        injection e with e
        have e : g = D := e
        rw [e] at hg
        rw [hg] at hK
        cases hK
    have HV := Lib.hid hv
    have HR := Lib.hid hrow
    clear hS hst hlen hv hrow
    gi_wp2_with (gi_at_call 26; refine (HS26.out _ _ _ _ HS.out).mono ?_; rintro e w2 ⟨rfl, t, q1, q2, q3, q4⟩; have hc2 := q4.cell (p := ⟨w.heap.size, 0, none⟩) hbw HV.out.cell)
    have hK2 : w2.heap[D]? = some (.deferred (some [])) := (q4.block D (Array.getElem?_eq_some_iff.1 hK).1 hbD).trans hK
    have hB2 : Below w.heap.size w w2 := Kept.below hB q4 (fun i hi => (HR.out.lt i hi).1) hB.size
    refine ⟨by simp, .inl ⟨_, _, rfl, run_takeDeferred hK2, ?_⟩⟩
    exact ⟨_, results_tmp rfl _ _ _, v, t, rfl, q1, q2, ownsRow_putObj q3 _ hK2 rfl, hB2.trans (belowK_b (w := w) (Nat.le_refl _) _ D _ _ (by simp at hD; omega) hK2 rfl rfl)⟩
  case stop =>
    rintro D c pre W _ _ h _
    exact h.elim
end Go.Proofs.Ytinndmglacfofaa
