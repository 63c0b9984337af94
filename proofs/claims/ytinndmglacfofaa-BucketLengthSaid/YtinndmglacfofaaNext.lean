/- Next: the smallest epoch. -/
import Derived.Test.YtinndmglacfofaaLen
import Derived.Sort.QuietIn
import Derived.BigRegionIn
namespace Go.Proofs.Ytinndmglacfofaa
open Go Go.RowKit Go.Deep Go.Shelf
set_option linter.unusedVariables false
set_option linter.unusedSimpArgs false

attribute [local go_sem] Oper.semAt_some

/-- The smallest epoch, and whether there is one. -/
def best : List Ent → Bool × Int
  | [] => (false, 0)
  | e :: l => match best l with
    | (true, m) => (true, if e.1 < m then e.1 else m)
    | (false, _) => (true, e.1)
def stepB (p : Bool × Int) (e : Ent) : Bool × Int := if p.1 = false ∨ e.1 < p.2 then (true, e.1) else p
def bestF (l : List Ent) : Bool × Int := l.foldl stepB (false, 0)
theorem bestF_snoc (l : List Ent) (e : Ent) : bestF (l ++ [e]) = stepB (bestF l) e := by simp [bestF]
/-- What it says. -/
structure IsBest (l : List Ent) (p : Bool × Int) : Prop where
  no : p.1 = false → l = [] ∧ p.2 = 0
  yes : p.1 = true → (∃ e ∈ l, e.1 = p.2) ∧ ∀ e ∈ l, p.2 ≤ e.1
theorem bestF_is (l : List Ent) : IsBest l (bestF l) := by
  have key : ∀ n (l : List Ent), l.length = n → IsBest l (bestF l) := by
    intro n
    induction n with
    | zero =>
      intro l hl
      obtain rfl := List.eq_nil_of_length_eq_zero hl
      exact ⟨fun _ => ⟨rfl, rfl⟩, fun h => by simp [bestF] at h⟩
    | succ n ih =>
      intro l hl
      obtain ⟨l', e, rfl⟩ : ∃ l' e, l = l' ++ [e] := ⟨l.dropLast, l.getLast (by intro h; rw [h] at hl; simp at hl), (List.dropLast_concat_getLast _).symm⟩
      have h := ih l' (by simpa using hl)
      rw [bestF_snoc]
      unfold stepB
      by_cases hc : (bestF l').1 = false ∨ e.1 < (bestF l').2
      · rw [if_pos hc]
        refine ⟨fun h => by simp at h, fun _ => ⟨⟨e, by simp, rfl⟩, fun x hx => ?_⟩⟩
        rcases List.mem_append.1 hx with hx | hx
        · cases hb : (bestF l').1 with
          | false => rw [(h.no hb).1] at hx; simp at hx
          | true =>
            have := (h.yes hb).2 x hx
            rcases hc with hc | hc
            · rw [hb] at hc; simp at hc
            · show e.1 ≤ x.1; omega
        · rw [List.mem_singleton.1 hx]; exact Int.le_refl _
      · rw [if_neg hc]
        have hb : (bestF l').1 = true := by
          cases hb : (bestF l').1 with
          | false => exact absurd (.inl hb) hc
          | true => rfl
        refine ⟨fun h => by rw [hb] at h; simp at h, fun _ => ?_⟩
        obtain ⟨⟨y, hy, hye⟩, h2⟩ := h.yes hb
        refine ⟨⟨y, by simp [hy], hye⟩, fun x hx => ?_⟩
        rcases List.mem_append.1 hx with hx | hx
        · exact h2 x hx
        · rw [List.mem_singleton.1 hx]
          have : ¬ e.1 < (bestF l').2 := fun h => hc (.inr h)
          omega
  exact key l.length l rfl
theorem best_unique {l m : List Ent} {p q : Bool × Int} (h : IsBest l p) (k : IsBest m q) (hm : ∀ e, e ∈ l ↔ e ∈ m) : p = q := by
  obtain ⟨p1, p2⟩ := p
  obtain ⟨q1, q2⟩ := q
  cases p1 with
  | false =>
    obtain ⟨e1, e2⟩ := h.no rfl
    have e2 : p2 = 0 := e2
    cases q1 with
    | false =>
      have e3 : q2 = 0 := (k.no rfl).2
      rw [e2, e3]
    | true =>
      obtain ⟨⟨x, hx, _⟩, _⟩ := k.yes rfl
      rw [e1] at hm
      exact absurd ((hm x).2 hx) (by simp)
  | true =>
    obtain ⟨⟨x, hx, hx2⟩, h2⟩ := h.yes rfl
    cases q1 with
    | false =>
      rw [(k.no rfl).1] at hm
      exact absurd ((hm x).1 hx) (by simp)
    | true =>
      obtain ⟨⟨y, hy, hy2⟩, k2⟩ := k.yes rfl
      have a := h2 y ((hm y).2 hy)
      have b := k2 x ((hm x).1 hx)
      have hx2 : x.1 = p2 := hx2
      have hy2 : y.1 = q2 := hy2
      have a : p2 ≤ y.1 := a
      have b : q2 ≤ x.1 := b
      obtain rfl : p2 = q2 := by omega
      rfl
/-- The entries of these buckets. -/
def ents {m : Nat} (n : Nat) (L : List Ent) (pre : List (Fin m)) : List Ent := pre.flatMap fun x => bk n L x.1
theorem ents_snoc {m : Nat} (n : Nat) (L : List Ent) (pre : List (Fin m)) (x : Fin m) : ents n L (pre ++ [x]) = ents n L pre ++ bk n L x.1 := by simp [ents]
theorem ents_all {n : Nat} (hn : 1 ≤ n) (L : List Ent) (e : Ent) : e ∈ ents n L (upto n n) ↔ e ∈ L := by
  rw [upto_all]
  unfold ents
  rw [List.mem_flatMap]
  constructor
  · rintro ⟨x, _, hx⟩
    exact (List.mem_filter.1 hx).1
  · intro he
    have h0 := Int.emod_nonneg e.1 (b := (n : Int)) (by omega)
    have h1 := Int.emod_lt_of_pos e.1 (b := (n : Int)) (by omega)
    refine ⟨⟨(e.1 % (n : Int)).toNat, by omega⟩, List.mem_finRange _, List.mem_filter.2 ⟨he, ?_⟩⟩
    simp only [beq_iff_eq]
    omega

/-- Next's two variables. -/
def Two (n0 : Nat) (p : Bool × Int) (W : World) : Prop :=
  (W.cell? ⟨n0, 0, none⟩ = some (.int .i64 p.2) ∧ W.frozen? ⟨n0, 0, none⟩ = false) ∧ W.cell? ⟨n0 + 1, 0, none⟩ = some (.bool p.1) ∧ W.frozen? ⟨n0 + 1, 0, none⟩ = false
theorem two_own {α : Type} (n0 : Nat) (f : List α → Bool × Int) : Own (fun pre W => Two n0 (f pre) W) := fun s A B row hs hg hr =>
  ⟨⟨cell_kept hs.1.1 hg hr, (frozen_kept hs.1.1 hg hr).trans hs.1.2⟩, cell_kept hs.2.1 hg hr, (frozen_kept hs.2.1 hg hr).trans hs.2.2⟩
theorem Two.below {n0 : Nat} {p : Bool × Int} {A B : World} (h : Two n0 p A) (hb : Below A.heap.size A B) : Two n0 p B :=
  ⟨⟨(hb.cell (p := ⟨n0, 0, none⟩) (cell_lt h.1.1)).trans h.1.1, (hb.frozen (p := ⟨n0, 0, none⟩) (cell_lt h.1.1)).trans h.1.2⟩, (hb.cell (p := ⟨n0 + 1, 0, none⟩) (cell_lt h.2.1)).trans h.2.1, (hb.frozen (p := ⟨n0 + 1, 0, none⟩) (cell_lt h.2.1)).trans h.2.2⟩
theorem Two.set {n0 : Nat} {p : Bool × Int} {A : World} (h : Two n0 p A) (x : Int) : Two n0 (true, x) ((A.setCell ⟨n0, 0, none⟩ (.int .i64 x)).setCell ⟨n0 + 1, 0, none⟩ (.bool true)) := by
  refine ⟨⟨?_, by rw [World.frozen?_setCell, World.frozen?_setCell]; exact h.1.2⟩, ?_, by rw [World.frozen?_setCell, World.frozen?_setCell]; exact h.2.2⟩
  · rw [World.cell?_setCell_other _ _ _ _ (by intro e; injection e with e; omega)]
    exact World.cell?_setCell_same' _ _ _ (by rw [h.1.1]; rfl)
  · exact World.cell?_setCell_same' _ _ _ (by rw [World.cell?_setCell_other _ _ _ _ (by intro e; injection e with e; omega), h.2.1]; rfl)

set_option maxRecDepth 100000 in
set_option maxHeartbeats 4000000 in
theorem next_in (F : Fence) (n : Nat) (h13 : F.fn 13) (h25 : F.fn 25) (h30 : F.fn 30) (h33 : F.fn 33) (hro : F.round = none) (hn : 4 ≤ n) (b B m : Nat) (ss : List Value) (L : List Ent) (w : World) (hp : RingP w b B m ss L) (hL : L.length ≤ 100000) :
    CallsIn F n Try.prog 13 #[.pointer (some ⟨b, 0, none⟩)] w fun e W' => e = .returned (.tuple #[.int .i64 (bestF (ents m L (upto m m))).2, .bool (bestF (ents m L (upto m m))).1]) ∧ Below w.heap.size w W' := by
  have h1 : 1 ≤ n := by omega
  refine callsIn_of_wp_marks Try.func13 rfl h13 ?_ hro
  have x0 := cell_alloc_some (.cells #[.bool false] 4) (cell_alloc_some (.cells #[.int .i64 0] 3) (hp.own.cell 0))
  simp only [Try.ntmps13, List.size_toArray, List.length_cons, List.length_nil, Nat.reduceAdd, Nat.reduceSub, Array.replicate_succ, Array.replicate_zero, List.push_toArray, List.append_toArray, List.nil_append, List.cons_append]
  gi_wp2_with (gi_at_call 25; refine (each_in F (n - 1) h25 h30 hro (by omega) b m m (some ⟨B, 0, none⟩) _ x0).mono ?_; rintro e w' ⟨rfl, rfl⟩)
  have bN := Boxed.new ((w.alloc (.cells #[.int .i64 0] 3)).alloc (.cells #[.bool false] 4)) 55 (.slice (some ⟨B, 0, none⟩) m m)
  rw [World.size_alloc, World.size_alloc] at bN
  have hB0 : Below w.heap.size w (((w.alloc (.cells #[.int .i64 0] 3)).alloc (.cells #[.bool false] 4)).alloc (.cells #[.slice (some ⟨B, 0, none⟩) m m] 55)) := (((Below.refl _ w).alloc (Nat.le_refl _) _).alloc (by simp) _).alloc (by simp; omega) _
  have hp2 : RingP (((w.alloc (.cells #[.int .i64 0] 3)).alloc (.cells #[.bool false] 4)).alloc (.cells #[.slice (some ⟨B, 0, none⟩) m m] 55)) b B m ss L := hp.same (hB0.block _ hp.own.lt) (hB0.block _ hp.bks.lt) (fun s hs i hi => hB0.block _ (hp.lt hs hi))
  have hT0 : Two w.heap.size (bestF (ents m L ([] : List (Fin m)))) (((w.alloc (.cells #[.int .i64 0] 3)).alloc (.cells #[.bool false] 4)).alloc (.cells #[.slice (some ⟨B, 0, none⟩) m m] 55)) := by
    refine Two.below ?_ ((Below.refl _ _).alloc (Nat.le_refl _) _)
    have q1 := (Blk.new w 3 #[.int .i64 0]).alloc (.cells #[.bool false] 4)
    have q2 := Blk.new (w.alloc (.cells #[.int .i64 0] 3)) 4 #[.bool false]
    rw [World.size_alloc] at q2
    exact ⟨⟨q1.cell 0, q1.frozen 0⟩, q2.cell 0, q2.frozen 0⟩
  refine wpIn_rangeFunc_ownG hro h1 (gf := 33) (lb := #[.pointer (some ⟨w.heap.size + 2, 0, none⟩)]) rfl h33 (enters_of Try.func33 (by kernel_rfl) rfl)
    (buckets_stops F (n - 1) h33 hro (by omega) (w.heap.size + 2) w.heap.size b B m ss L _ (by simp) (by simp; omega) bN.cell hp2 hp.bks.lt) belowK_t (belowK_b (by simp; omega)) (Below.refl _ _) (fun _ => rfl)
    (fun pre W => Two w.heap.size (bestF (ents m L pre)) W ∧ Below w.heap.size w W)
    (fun _ _ _ => False)
    (OwnFrom.and (Own.from (two_own w.heap.size (fun pre => bestF (ents m L pre))) _) (ownFrom_below (Nat.le_refl _) (by simp; omega)))
    (fun _ _ _ _ _ hs _ _ => hs)
    ⟨hT0, hB0⟩
    (fun x => { tmps := #[.pointer (some ⟨b, 0, none⟩), undef, .int .i64 0, .bool false, .pointer (some ⟨w.heap.size, 0, none⟩), .pointer (some ⟨w.heap.size + 1, 0, none⟩), nth ss x.1, undef, undef, .pointer (some ⟨b, 0, none⟩), .func (.func 33) #[] #[.pointer (some ⟨w.heap.size + 2, 0, none⟩)], nth ss x.1, undef, undef, undef, undef, undef, undef, undef, undef, undef, undef, undef, undef, undef, undef, undef, undef, undef, undef, undef], defers := [] }) ?assign ?body ?done ?stop
  case assign =>
    intro l x W K hK
    gi_wp2
    exact hK
  case body =>
    rintro l pre x W ⟨hT, hB⟩ hpl
    obtain ⟨s, hs⟩ := hp.get x.2
    have hq := bk_len m L x.1
    obtain ⟨a, cp, rfl, hcp, hcp2⟩ := owns_slice (hp.row x.1 s hs)
    have hnt := nth_of hs
    have hlst := owns_lst (S := fun _ => False) (hp.row x.1 _ hs) (fun _ _ h => h)
    obtain ⟨bl, hbl⟩ : ∃ bl, bk m L x.1 = bl := ⟨_, rfl⟩
    rw [hbl] at hnt hq hcp hlst
    have HES : Hid (ents m L (pre ++ [x]) = ents m L pre ++ bl) := Lib.hid (by rw [ents_snoc, hbl])
    obtain ⟨q, hqe⟩ : ∃ q, bl.length = q := ⟨_, rfl⟩
    rw [hqe] at hnt hq hcp
    have HQ := Lib.hid hqe
    have HL := Lib.hid hlst
    have HT : Hid (Two w.heap.size (bestF (ents m L pre ++ bl.take 0)) W) := Lib.hid (by simpa using hT)
    unfold maxLen at hcp2
    clear hs hqe hlst hbl hT
    try dsimp only
    rw [hnt]
    gi_wp2
    gi_loopw [14] (fun s14 wr => ∃ k : Nat, k ≤ q ∧ s14 = .int .i64 k ∧ Hid (Two w.heap.size (bestF (ents m L pre ++ bl.take k)) wr) ∧ KeepsOthers W wr ∧ Below w.heap.size W wr) (fun s14 _ => q - (intOf s14).toNat)
    case atStart => exact ⟨0, by omega, rfl, HT, KeepsOthers.refl _, Below.refl _ _⟩
    case round =>
      clear HT
      obtain ⟨k, hk, rfl, HT, hko, hbw⟩ := hrel
      by_cases hlt : k < q
      · obtain ⟨e, he⟩ : ∃ e, bl[k]? = some e := ⟨_, List.getElem?_eq_getElem (by have := HQ.out; omega)⟩
        obtain ⟨g, off, rfl, hr⟩ := HL.out.at he
        have hgl : g < w.heap.size := cell_lt (hr 0 _ rfl)
        have e0 : wr.cell? ⟨g, off + k * 2, none⟩ = some (.int .i64 e.1) := (hbw.cell (p := ⟨g, off + k * 2, none⟩) hgl).trans ((hB.cell (p := ⟨g, off + k * 2, none⟩) hgl).trans (hr 0 _ rfl))
        have e1 : wr.cell? ⟨g, off + k * 2 + 1, none⟩ = some (.int .i64 e.2) := (hbw.cell (p := ⟨g, off + k * 2 + 1, none⟩) hgl).trans ((hB.cell (p := ⟨g, off + k * 2 + 1, none⟩) hgl).trans (hr 1 _ rfl))
        have hsz : w.heap.size ≤ wr.heap.size := Nat.le_trans hB.size hbw.size
        have hstep : bestF (ents m L pre ++ bl.take (k + 1)) = stepB (bestF (ents m L pre ++ bl.take k)) e := by
          rw [List.take_add_one, he, Option.toList_some, ← List.append_assoc, bestF_snoc]
        have HST := Lib.hid hstep
        obtain ⟨p, hpe⟩ : ∃ p, bestF (ents m L pre ++ bl.take k) = p := ⟨_, rfl⟩
        have ht := HT.out
        rw [hpe] at ht
        have HPE := Lib.hid hpe
        obtain ⟨fd, nx⟩ := p
        have ht2 : Two w.heap.size (fd, nx) (wr.alloc (.cells #[.int .i64 e.1, .int .i64 e.2] 46)) := ht.below ((Below.refl _ _).alloc (Nat.le_refl _) _)
        have c1 := ht2.1.1
        have c2 := ht2.1.2
        have c3 := ht2.2.1
        have c4 := ht2.2.2
        dsimp only at c1 c3
        have HT2 := Lib.hid ht2
        clear hstep hpe ht ht2 hr he
        by_cases hc : fd = false ∨ e.1 < nx
        · have HS2 : Hid (bestF (ents m L pre ++ bl.take (k + 1)) = (true, e.1)) := Lib.hid (by rw [HST.out, HPE.out]; exact if_pos hc)
          cases fd with
          | false =>
            clear hc
            gi_wp2
            go_roundw
            case rel => exact ⟨k + 1, by omega, by go_num, Lib.hid (by rw [HS2.out]; exact HT2.out.set e.1), ((hko.trans (KeepsOthers.alloc wr _)).trans (KeepsOthers.setCell _ _ _)).trans (KeepsOthers.setCell _ _ _), ((hbw.alloc hsz _).setCell (p := ⟨w.heap.size, 0, none⟩) (Nat.le_refl _) _).setCell (p := ⟨w.heap.size + 1, 0, none⟩) (Nat.le_succ _) _⟩
            case measure => simp [intOf]; omega
          | true =>
            have hc2 : e.1 < nx := by simpa using hc
            clear hc
            gi_wp2
            go_roundw
            case rel => exact ⟨k + 1, by omega, by go_num, Lib.hid (by rw [HS2.out]; exact HT2.out.set e.1), ((hko.trans (KeepsOthers.alloc wr _)).trans (KeepsOthers.setCell _ _ _)).trans (KeepsOthers.setCell _ _ _), ((hbw.alloc hsz _).setCell (p := ⟨w.heap.size, 0, none⟩) (Nat.le_refl _) _).setCell (p := ⟨w.heap.size + 1, 0, none⟩) (Nat.le_succ _) _⟩
            case measure => simp [intOf]; omega
        · have HS2 : Hid (bestF (ents m L pre ++ bl.take (k + 1)) = (fd, nx)) := Lib.hid (by rw [HST.out, HPE.out]; exact if_neg hc)
          have hfd : fd = true := by cases fd with | false => exact absurd (.inl rfl) hc | true => rfl
          have hc2 : ¬ e.1 < nx := fun h => hc (.inr h)
          subst hfd
          clear hc
          gi_wp2
          go_roundw
          case rel => exact ⟨k + 1, by omega, by go_num, Lib.hid (by rw [HS2.out]; exact HT2.out), hko.trans (KeepsOthers.alloc wr _), hbw.alloc hsz _⟩
          case measure => simp [intOf]; omega
      · obtain rfl : k = q := by omega
        have HZ : Hid (Two w.heap.size (bestF (ents m L (pre ++ [x]))) wr) := Lib.hid (by
          have := HT.out
          rw [List.take_of_length_le (by have := HQ.out; omega)] at this
          rw [HES.out]; exact this)
        clear HT
        gi_wp2
        exact ⟨hko.from _, hbw, HZ.out, hB.trans hbw⟩
  case done =>
    rintro D ys W hD rfl ⟨hT, hB⟩ hK
    have c1 := hT.1.1
    have c3 := hT.2.1
    gi_wp2
    refine wpIn_region_quiet_lit hro (by kernel_rfl) (by kernel_rfl) ?_
    repeat (quiet_step_in (fail))
    refine wpQuietIn_nil ?_
    intro _ hw'
    obtain ⟨nq, hw''⟩ := hw'
    subst hw''
    gi_wp2
    have hK' : (W.drewN nq).heap[D]? = some (.deferred (some [])) := hK
    refine ⟨by simp, .inl ⟨_, _, rfl, run_takeDeferred hK', ?_⟩⟩
    exact ⟨_, results_tmp2 rfl _ _ _, rfl, (below_drewN hB nq).trans (belowK_b (w := w) (Nat.le_refl _) _ D _ _ (by simp at hD; omega) hK' rfl rfl)⟩
  case stop =>
    rintro D c pre W _ _ h _
    exact h.elim
end Go.Proofs.Ytinndmglacfofaa
