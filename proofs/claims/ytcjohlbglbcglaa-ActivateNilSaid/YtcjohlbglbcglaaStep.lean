/- Step. -/
import Derived.Test.YtcjohlbglbcglaaBatch
import Derived.Laws.EntriesVeiled
namespace Go.Proofs.Ytcjohlbglbcglaa
open Go Go.RowKit Go.Shelf
set_option linter.unusedVariables false
set_option linter.unusedSimpArgs false
set_option maxRecDepth 100000

attribute [local go_sem] Oper.semAt_some

/-- What Step leaves. -/
def StepPost (w : World) (b : Nat) (go : Option Nat) (sz : Nat) (L : List Int) (B : Nat) (e : Ending) (w' : World) : Prop :=
  ∃ v, e = .returned v ∧ w'.ownsRow w.heap.size 3 1 v B ((L.take B).map (Value.int .i64)) ∧ RingAt 51 3 1 w' b go sz (L.length - B) ((L.drop B).map (Value.int .i64)) ∧ Kept (Foot b go) w w'
theorem box_at {W : World} {t : TypeId} {v : Value} {n : Nat} (hz : W.heap.size = n) : (W.alloc (.cells #[v] t)).cell? ⟨n, 0, none⟩ = some v ∧ (W.alloc (.cells #[v] t)).frozen? ⟨n, 0, none⟩ = false := by
  subst hz
  exact ⟨(Blk.new W t #[v]).cell 0, (Blk.new W t #[v]).frozen 0⟩
theorem owns_base {w : World} {base e k n : Nat} {v : Value} {xs : List Value} (h : w.ownsRow base e k v n xs) {B : Nat} (hB : B ≤ base) : w.ownsRow B e k v n xs := by
  refine ⟨h.1, h.2.imp id ?_⟩
  rintro ⟨g, cp, cur, rfl, h1, h2⟩
  exact ⟨g, cp, cur, rfl, by omega, h2⟩
theorem batch_any (b : Nat) (fn : Fn) (cs : Array Value) (w : World) (F : Fence) (n : Nat) (hf : F.fn 25) (hro : F.round = none) :
    CallsIn F n Try.prog 25 #[.pointer (some ⟨b, 0, none⟩), .func fn #[] cs] w fun e w' => e = .returned (.func (.func 36) #[] #[.pointer (some ⟨w.heap.size, 0, none⟩), .pointer (some ⟨w.heap.size + 1, 0, none⟩)]) ∧
      w' = (w.alloc (.cells #[.pointer (some ⟨b, 0, none⟩)] 26)).alloc (.cells #[.func fn #[] cs] 46) := by
  have hmf : ∀ (fn : Fn) (first cap : Array Value) (w : World), (Instr.makeFunc fn first cap).run Try.prog w = .ok (.func fn first cap) w := fun _ _ _ _ => rfl
  refine callsIn_of_wp Try.func25 rfl hf ?_ hro
  simp only [Try.ntmps25, List.size_toArray, List.length_cons, List.length_nil, Nat.reduceAdd, Nat.reduceSub, Array.replicate_succ, Array.replicate_zero, List.push_toArray, List.append_toArray, List.nil_append, List.cons_append]
  gi_wp2
  go_ret
  exact ⟨rfl, rfl⟩
section
variable {w W w1 : World} {b : Nat} {go : Option Nat} {sz : Nat} {L : List Int} {wv : Value} {lim : Int} {p : Nat × Int} {k x : Nat}
/-- The world in which the range begins. -/
def W0 (w1 : World) (b z : Nat) : World :=
  (((w1.alloc (.cells #[bndF (z + 1)] 43)).alloc (.cells #[.slice none 0 0] 22)).alloc (.cells #[.pointer (some ⟨b, 0, none⟩)] 26)).alloc (.cells #[nowF z] 46)
theorem step_start (hr : RingAt 51 3 1 w b go sz L.length (L.map (Value.int .i64))) (hb : Bnd w1 (w.heap.size + 1) lim (0, 0)) (bl : Below (w.heap.size + 1) (w.alloc (.cells #[wv] 24)) w1) (hz : w1.heap.size = w.heap.size + 1 + 3) :
    Sq w b go sz L wv lim (0, 0) 0 0 (W0 w1 b w.heap.size) ∧ (W0 w1 b w.heap.size).heap.size = w.heap.size + 8 := by
  have e1 : Below w.heap.size w w1 := ((Below.refl _ w).alloc (Nat.le_refl _) _).trans (bl.mono (by omega))
  have n1 := Blk.new w1 43 #[bndF (w.heap.size + 1)]
  have n2 := Blk.new (w1.alloc (.cells #[bndF (w.heap.size + 1)] 43)) 22 #[.slice none 0 0]
  have n3 := Blk.new ((w1.alloc (.cells #[bndF (w.heap.size + 1)] 43)).alloc (.cells #[.slice none 0 0] 22)) 26 #[.pointer (some ⟨b, 0, none⟩)]
  have n4 := Blk.new (((w1.alloc (.cells #[bndF (w.heap.size + 1)] 43)).alloc (.cells #[.slice none 0 0] 22)).alloc (.cells #[.pointer (some ⟨b, 0, none⟩)] 26)) 46 #[nowF w.heap.size]
  simp only [World.size_alloc, hz, Nat.add_assoc, Nat.reduceAdd] at n1 n2 n3 n4
  have kept : Kept (Foot b go) w (W0 w1 b w.heap.size) := ((((Kept.of_below (S := Foot b go) e1).alloc _).alloc _).alloc _).alloc _
  have wb : Blk w1 w.heap.size 24 #[wv] := (Blk.new w 24 #[wv]).below bl (by omega)
  refine ⟨⟨?_, ⟨(((hb.1.alloc _).alloc _).alloc _).alloc _, (((hb.2.1.alloc _).alloc _).alloc _).alloc _, (((hb.2.2.alloc _).alloc _).alloc _).alloc _⟩, (((wb.alloc _).alloc _).alloc _).alloc _, ((n1.alloc _).alloc _).alloc _, n3.alloc _, n4, ⟨.slice none 0 0, (n2.alloc _).alloc _, World.ownsRow_nil _ _ _ _, trivial⟩, kept⟩, by simp [W0, hz]⟩
  exact hr.kept (S := fun _ => False) (((((Kept.of_below (S := fun _ => False) e1).alloc _).alloc _).alloc _).alloc _) (fun _ _ h => h)
/-- One more is in the list. -/
theorem Sq.collect {v v' : Value} {tmp : Obj} (h : Sq w b go sz L wv lim p (x + 1) x W) (hlt : ∀ i, Foot b go i → i < w.heap.size) (hv : Boxed W (w.heap.size + 5) 22 v) (hrow : W.ownsRow (w.heap.size + 8) 3 1 v x ((L.take x).map (Value.int .i64))) (hx : x < L.length) (hsz : w.heap.size + 8 ≤ W.heap.size)
    (hown : w1.ownsRow (w.heap.size + 8) 3 1 v' (x + 1) ((L.take x).map (Value.int .i64) ++ [.int .i64 (L.getD x 0)])) (hgrow : (W.alloc tmp).grownBy w1 v.ownBlock) :
    Boxed w1 (w.heap.size + 5) 22 v ∧ Sq w b go sz L wv lim p (x + 1) (x + 1) (w1.setCell ⟨w.heap.size + 5, 0, none⟩ v') ∧ KeepsOthers W (w1.setCell ⟨w.heap.size + 5, 0, none⟩ v') := by
  obtain ⟨a1, a2, a3, a4, -⟩ := Boxed.appended (n₀ := w.heap.size + 5) (B := w.heap.size + 5) hv (by decide) (owns_base hrow (by omega)) (by omega) (Nat.le_refl _) (owns_base hown (by omega)) hgrow
  have K : Kept (fun i => i = w.heap.size + 5 ∨ v.ownBlock = some i) W (w1.setCell ⟨w.heap.size + 5, 0, none⟩ v') :=
    (((Kept.refl _ W).alloc tmp).trans (Kept.of_grown (S := fun i => v.ownBlock = some i) hgrow (fun i e => e.symm)) (fun _ _ e => .inr e)).setCell (.inl (.inl rfl)) v'
  have nk : ∀ i, i < w.heap.size + 8 → i ≠ w.heap.size + 5 → ¬ (i = w.heap.size + 5 ∨ v.ownBlock = some i) := fun i h1 h2 e => e.elim h2 (fun e => by have := (hrow.lt i e).1; omega)
  refine ⟨a1, ⟨h.ring.kept K (fun i hi => nk i (by have := hlt i hi; omega) (by have := hlt i hi; omega)), h.bnd.kept K (fun i h1 h2 => nk i (by omega) (by omega)), h.fw.kept K (nk _ (by omega) (by omega)), h.fb.kept K (nk _ (by omega) (by omega)), h.fq.kept K (nk _ (by omega) (by omega)), h.fn.kept K (nk _ (by omega) (by omega)), ⟨v', a2, ?_, trivial⟩, h.kept.trans K (fun i hi e => (nk i (by omega) (by omega) e).elim)⟩, a4⟩
  have hne : ∀ i, v'.ownBlock = some i → i ≠ w.heap.size + 5 := fun i e => by have := (hown.lt i e).1; omega
  have ho := owns_same (W' := w1.setCell ⟨w.heap.size + 5, 0, none⟩ v') hown (fun i e => Below.heap_setCell _ _ _ _ (hne i e))
  rw [List.take_succ_eq_append_getElem hx, List.map_append]
  rw [List.getD_eq_getElem?_getD, List.getElem?_eq_getElem hx] at ho
  exact ho
end
section
variable {w : World} {b : Nat} {go : Option Nat} {sz : Nat} {L Lw : List Int} {a : Option Addr} {cap : Nat} {lim : Int}
set_option maxHeartbeats 2000000 in
theorem step_in (F : Fence) (n : Nat) (hFw : F = Fence.wide) (hn : 6 ≤ n) (hr : RingAt 51 3 1 w b go sz L.length (L.map (Value.int .i64))) (hu : UAt w (Foot b go) a Lw) (hL : Lw.length ≤ 9223372036854775807) (hA : Amts Lw) (hl : Amt lim) :
    CallsIn F n Try.prog 11 #[.pointer (some ⟨b, 0, none⟩), .int .u64 lim, .slice a Lw.length cap] w (StepPost w b go sz L (bat lim (L.map (wOf Lw)))) := by
  have h1 : 1 ≤ n := by omega
  have hro : F.round = none := by rw [hFw]; rfl
  have hf : ∀ k, F.fn k := fun k => by rw [hFw]; trivial
  have HC : Hid (∀ (f n : Nat) (args : Array Value) (w : World) (R : Ending → World → Prop), Calls Try.prog f args w R → CallsIn F n Try.prog f args w R) := Lib.hid (fun f n args w R h => by rw [hFw]; exact callsIn_wide.2 h)
  have HFW := Lib.hid hFw
  have HR := Lib.hid hr
  have hmf : ∀ (fn : Fn) (first cap : Array Value) (w : World), (Instr.makeFunc fn first cap).run Try.prog w = .ok (.func fn first cap) w := fun _ _ _ _ => rfl
  clear hFw hr
  refine callsIn_of_wp_marks Try.func11 rfl (hf _) ?_ hro
  simp only [Try.ntmps11, List.size_toArray, List.length_cons, List.length_nil, Nat.reduceAdd, Nat.reduceSub, Array.replicate_succ, Array.replicate_zero, List.push_toArray, List.append_toArray, List.nil_append, List.cons_append]
  gi_wp2_with (first | (gi_at_call 22; refine (HC.out _ _ _ _ _ (boundaries_any lim _)).mono ?_; rintro e w1 ⟨rfl, hb1, bl1, hz1⟩; rw [World.size_alloc] at hb1 bl1 hz1; unfold bndF; have HZ1 := Lib.hid (And.intro hb1 (And.intro bl1 hz1)); clear hb1 bl1 hz1) | (gi_at_call 25; refine (batch_any b _ _ _ F (n - 1) (hf _) hro).mono ?_; rintro e w2 ⟨rfl, rfl⟩))
  obtain ⟨hS0, hz0⟩ := step_start (L := L) HR.out HZ1.out.1 HZ1.out.2.1 HZ1.out.2.2
  have hzz := HZ1.out.2.2
  have hlt := HR.out.lt
  have hLL := HR.out.size_le
  rw [hzz]
  simp only [Nat.add_assoc, Nat.reduceAdd]
  show Code.wpIn _ _ _ _ _ _ (W0 w1 b w.heap.size)
  generalize W0 w1 b w.heap.size = W at *
  clear HZ1 hzz hmf
  obtain ⟨X, hX⟩ : ∃ X, L.map (wOf Lw) = X := ⟨_, rfl⟩
  have hXl : X.length = L.length := by rw [← hX]; exact List.length_map ..
  have hbl : bat lim X ≤ L.length := by rw [← hXl]; exact bat_le X
  rw [hX]
  obtain ⟨i0, hi, hz0', hz1, hz2⟩ := int_app
  have HI := Lib.hid (fun l Bk hBk => batch1_in (L := L) (sz := sz) (cap := cap) F (n - 1) HFW.out (by omega) l Bk W.heap.size (by omega) hBk hlt hu hL hA hl (by omega))
  rw [hX] at HI
  refine wpIn_rangeFunc_joint hro h1 (gf := 36) (lb := #[.pointer (some ⟨w.heap.size + 6, 0, none⟩), .pointer (some ⟨w.heap.size + 7, 0, none⟩)]) rfl (hf _) (enters_of Try.func36 (by kernel_rfl) rfl)
    (encs := fun x : Nat => #[.int .i64 (L.getD x 0)]) (fun _ => rfl)
    (fun x W' => x < bat lim X ∧ Sq w b go sz L (.slice a Lw.length cap) lim (stN X (x + 1)) (x + 1) x W')
    (fun x W' => x < bat lim X ∧ Sq w b go sz L (.slice a Lw.length cap) lim (stN X (x + 1)) (x + 1) (x + 1) W')
    (fun W' => ∃ q, Sq w b go sz L (.slice a Lw.length cap) lim q (bat lim X) (bat lim X) W')
    (fun s A B' row h hg hr => ⟨h.1, Sq.own (by omega) (fun x => stN X (x + 1)) (fun x => x + 1) (fun x => x) s A B' row h.2 hg hr⟩)
    (fun s A B' row h hg hr => ⟨h.1, Sq.own (by omega) (fun x => stN X (x + 1)) (fun x => x + 1) (fun x => x + 1) s A B' row h.2 hg hr⟩)
    (fun s A B' row h hg hr => h.imp fun q h => Sq.own (by omega) (fun _ => q) (fun _ => bat lim X) (fun _ => bat lim X) 0 A B' row h hg hr)
    (fun x => { tmps := #[.pointer (some ⟨b, 0, none⟩), .int .u64 lim, .slice a Lw.length cap, undef, undef, .pointer (some ⟨w.heap.size, 0, none⟩), .slice none 0 0, .pointer (some ⟨w.heap.size + 4, 0, none⟩), nowF w.heap.size, .pointer (some ⟨w.heap.size + 5, 0, none⟩), .int .i64 (L.getD x 0), .int .u64 lim, bndF (w.heap.size + 1), nowF w.heap.size, .pointer (some ⟨b, 0, none⟩), nowF w.heap.size, .func (.func 36) #[] #[.pointer (some ⟨w.heap.size + 6, 0, none⟩), .pointer (some ⟨w.heap.size + 7, 0, none⟩)], .int .i64 (L.getD x 0), undef, undef, undef, undef, undef], defers := [] }) ?assign ?body ?it ?done
  case assign =>
    intro l x W K hK
    gi_wp2
    exact hK
  case body =>
    rintro l x W1 ⟨hx, hs⟩
    obtain ⟨v, hv, hrow, -⟩ := hs.out
    have hc := hv.cell
    have hxl : x < L.length := by omega
    have hsz : w.heap.size + 8 ≤ W1.heap.size := hs.fn.lt
    obtain ⟨y, hy⟩ : ∃ y, L.getD x 0 = y := ⟨_, rfl⟩
    have HSQ := Lib.hid (fun (v' : Value) (w1 : World) (tmp : Obj) => Sq.collect (w1 := w1) (v' := v') (tmp := tmp) hs hlt hv hrow hxl hsz)
    rw [hy] at HSQ ⊢
    have HROW := Lib.hid hrow
    have HXX := Lib.hid hx
    clear hs hrow hy hx HI hS0 hlt
    gi_wp2_with (gi_at_builtin; refine wpListIn_append_own _ rfl _ _ 22 rfl (w.heap.size + 8) 3 i0 (.int .i64 0) 1 8 Try.underlying22 hi hz0' hz1 hz2 rfl (by decide) _ _ _ rfl (HROW.out.alloc _) ⟨W1.heap.size, 0, none⟩ 1 1 [.int .i64 y] rfl rfl (cell_one _ _ _) (by simp [Value.oneCell']) (by unfold maxLen; omega) (by omega) (by simp; omega) ?_; intro v' w1 hown' hgrow _; obtain ⟨g', cap', rfl⟩ := ownsRow_succ hown'; obtain ⟨hv1, hs1, hk1⟩ := HSQ.out _ w1 _ hown' hgrow; have hc1 := hv1.cell; have hf1 := hv1.frozen; have HR1 := Lib.hid (And.intro hs1 hk1); clear hown' hgrow hs1 hk1)
    exact ⟨HR1.out.2.from _, HXX.out, HR1.out.1⟩
  case it =>
    intro l Bk hBk hY W1 hb hbl2
    exact HI.out l Bk hBk hY W1 hb (hS0.turn (only_of_below hbl2 none) (fun r e => by cases e))
  case done =>
    rintro D W2 hD ⟨q, hs⟩ hK
    obtain ⟨v, hv, hrow, -⟩ := hs.out
    have hc := hv.cell
    have HS2 := Lib.hid (hs.turn (grownBy_putObj' W2 D (.deferred none)) (fun r e => by cases e; exact ⟨by omega, _, hK, rfl⟩))
    have HR2 := Lib.hid (ownsRow_putObj hrow (.deferred none) hK rfl)
    have HHX := Lib.hid hX
    clear hs hrow hv HI hX hbl hXl
    gi_wp2
    refine ⟨by simp, .inl ⟨_, _, rfl, run_takeDeferred hK, ?_⟩⟩
    rw [HHX.out]
    exact ⟨_, results_tmp rfl _ _ _, v, rfl, owns_base HR2.out (by omega), HS2.out.ring, HS2.out.kept⟩
/-- Step. -/
theorem step_any (hr : RingAt 51 3 1 w b go sz L.length (L.map (Value.int .i64))) (hu : UAt w (Foot b go) a Lw) (hL : Lw.length ≤ 9223372036854775807) (hA : Amts Lw) (hl : Amt lim) :
    Calls Try.prog 11 #[.pointer (some ⟨b, 0, none⟩), .int .u64 lim, .slice a Lw.length cap] w (StepPost w b go sz L (bat lim (L.map (wOf Lw)))) :=
  (callsIn_wide (n := 6)).1 (step_in Fence.wide 6 rfl (Nat.le_refl _) hr hu hL hA hl)
end
end Go.Proofs.Ytcjohlbglbcglaa
