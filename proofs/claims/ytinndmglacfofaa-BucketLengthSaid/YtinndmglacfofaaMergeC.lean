/- slices.symMergeCmpFunc: two sorted parts become one. (mkmerge.py writes this text.) -/
import Derived.Test.YtinndmglacfofaaMergeB
import Derived.Test.YtinndmglacfofaaRotate
import Derived.Deep.CutRange
import Derived.Outline
namespace Go.Proofs.Ytinndmglacfofaa
open Go Go.RowKit Go.Deep
set_option linter.unusedVariables false
set_option linter.unusedSimpArgs false

/-- What the search has found. -/
structure Srch (u v : List Ent) (a m p s0 r0 s r : Nat) : Prop where
  lo : ∀ c x y, s0 ≤ c → c < s → u[c - a]? = some x → v[p - c - m]? = some y → x.1 ≤ y.1
  hi : ∀ c x y, r ≤ c → c < r0 → u[c - a]? = some x → v[p - c - m]? = some y → y.1 < x.1
theorem Srch.right {u v : List Ent} {a m p s0 r0 s r c : Nat} {x y : Ent} (h : Srch u v a m p s0 r0 s r) (hu : Srt u) (hv : Srt v) (hx : u[c - a]? = some x) (hy : v[p - c - m]? = some y) (hl : ¬ y.1 < x.1) : Srch u v a m p s0 r0 (c + 1) r :=
  ⟨fun c' x' y' h1 h2 hx' hy' => by
    have e1 := srt_at hu hx' hx (by omega)
    have e2 := srt_at hv hy hy' (by omega)
    omega, h.hi⟩
theorem Srch.left {u v : List Ent} {a m p s0 r0 s r c : Nat} {x y : Ent} (h : Srch u v a m p s0 r0 s r) (hu : Srt u) (hv : Srt v) (hx : u[c - a]? = some x) (hy : v[p - c - m]? = some y) (hl : y.1 < x.1) : Srch u v a m p s0 r0 s c :=
  ⟨h.lo, fun c' x' y' h1 h2 hx' hy' => by
    have e1 := srt_at hu hx hx' (by omega)
    have e2 := srt_at hv hy' hy (by omega)
    omega⟩
/-- Where the search runs. -/
structure Span (a m b mid nn p s0 r0 : Nat) : Prop where
  mi : mid = (a + b) / 2
  nn_ : nn = mid + m
  p_ : p + 1 = nn
  or : (mid < m ∧ s0 + b = nn ∧ r0 = mid) ∨ (m ≤ mid ∧ s0 = a ∧ r0 = m)
theorem Span.facts {a m b mid nn p s0 r0 : Nat} (h : Span a m b mid nn p s0 r0) (h1 : a < m) (h2 : m < b) : a ≤ s0 ∧ s0 ≤ r0 ∧ r0 ≤ m ∧ ∀ c, s0 ≤ c → c < r0 → c ≤ p ∧ m ≤ p - c ∧ p - c < b := by
  obtain ⟨e1, e2, e3, e4⟩ := h
  have e5 : 2 * mid ≤ a + b ∧ a + b < 2 * mid + 2 := by omega
  rcases e4 with ⟨q1, q2, q3⟩ | ⟨q1, q2, q3⟩
  · exact ⟨by omega, by omega, by omega, fun c c1 c2 => ⟨by omega, by omega, by omega⟩⟩
  · exact ⟨by omega, by omega, by omega, fun c c1 c2 => ⟨by omega, by omega, by omega⟩⟩
/-- The parts that the search has found, and what holds between them. -/
theorem Srch.parts {u v : List Ent} {a m b mid nn p s0 r0 s e : Nat} (h : Srch u v a m p s0 r0 s s) (hS : Span a m b mid nn p s0 r0) (hu : Srt u) (hv : Srt v) (hul : a + u.length = m) (hvl : m + v.length = b) (h1 : a < m) (h2 : m < b) (hs0 : s0 ≤ s) (hsr : s ≤ r0) (he : e + s = nn) :
    ∃ U1 U2 V1 V2, u = U1 ++ U2 ∧ v = V1 ++ V2 ∧ U1.length = s - a ∧ U2.length = m - s ∧ V1.length = e - m ∧ V2.length = b - e ∧ (∀ x ∈ U2, ∀ y ∈ V1, y.1 < x.1) ∧ (∀ x ∈ U1, ∀ y ∈ V2, x.1 ≤ y.1) ∧ m ≤ e ∧ e ≤ b ∧ a ≤ s ∧ s ≤ m ∧ s ≤ mid ∧ mid ≤ e := by
  obtain ⟨f1, f2, f3, f4⟩ := hS.facts h1 h2
  obtain ⟨e1, e2, e3, e4⟩ := hS
  have e5 : 2 * mid ≤ a + b ∧ a + b < 2 * mid + 2 := by omega
  have hb : m ≤ e ∧ e ≤ b ∧ s ≤ mid := by rcases e4 with ⟨q1, q2, q3⟩ | ⟨q1, q2, q3⟩ <;> omega
  refine ⟨u.take (s - a), u.drop (s - a), v.take (e - m), v.drop (e - m), (List.take_append_drop _ _).symm, (List.take_append_drop _ _).symm, by rw [List.length_take]; omega, by rw [List.length_drop]; omega, by rw [List.length_take]; omega, by rw [List.length_drop]; omega, ?_, ?_, hb.1, hb.2.1, by omega, by omega, hb.2.2, by omega⟩
  · refine split_ge (fun i x hx hi => split_lt (fun j y hy hj => ?_))
    have hil := (List.getElem?_eq_some_iff.1 hx).1
    have hjl := (List.getElem?_eq_some_iff.1 hy).1
    have hsr' : s < r0 := by rcases e4 with ⟨q1, q2, q3⟩ | ⟨q1, q2, q3⟩ <;> omega
    obtain ⟨x', hx'⟩ : ∃ x', u[s - a]? = some x' := ⟨_, List.getElem?_eq_getElem (by omega)⟩
    obtain ⟨y', hy'⟩ : ∃ y', v[p - s - m]? = some y' := ⟨_, List.getElem?_eq_getElem (by omega)⟩
    have := h.hi s x' y' (Nat.le_refl _) hsr' hx' hy'
    have := srt_at hu hx' hx hi
    have := srt_at hv hy hy' (by omega)
    omega
  · refine split_lt (fun i x hx hi => split_ge (fun j y hy hj => ?_))
    have hil := (List.getElem?_eq_some_iff.1 hx).1
    have hjl := (List.getElem?_eq_some_iff.1 hy).1
    have hs0' : s0 < s := by rcases e4 with ⟨q1, q2, q3⟩ | ⟨q1, q2, q3⟩ <;> omega
    obtain ⟨x', hx'⟩ : ∃ x', u[s - 1 - a]? = some x' := ⟨_, List.getElem?_eq_getElem (by omega)⟩
    obtain ⟨y', hy'⟩ : ∃ y', v[p - (s - 1) - m]? = some y' := ⟨_, List.getElem?_eq_getElem (by omega)⟩
    have := h.lo (s - 1) x' y' (by omega) (by omega) hx' hy'
    have := srt_at hu hx hx' (by omega)
    have := srt_at hv hy' hy (by omega)
    omega

/-- The function's contract, for parts of at most so many entries. -/
def SymC (g cap n N : Nat) : Prop := ∀ (a m b : Nat) (P u v Q : List Ent) (w : World), Row w g cap n (P ++ u ++ v ++ Q) → P.length = a → a + u.length = m → m + v.length = b → 0 < u.length → 0 < v.length → Srt u → Srt v → u.length + v.length ≤ N →
    Calls Try.prog 35 #[.slice (some ⟨g, 0, none⟩) n cap, .int .i64 a, .int .i64 m, .int .i64 b, cmpF] w fun e w' => e = .returned (.tuple #[]) ∧ Sorted g cap n P (u ++ v) Q w' ∧ Kept (fun i => i = g) w w'

set_option maxRecDepth 100000 in
set_option maxHeartbeats 6400000 in
theorem sym_two (g cap n a b m N : Nat) (P u v Q : List Ent) (w : World) (IH : SymC g cap n N) (h : Row w g cap n (P ++ u ++ v ++ Q)) (hn : n ≤ 1000000) (hP : P.length = a) (hm : a + u.length = m) (hb : m + v.length = b) (hu : Srt u) (hv : Srt v) (hu1 : 1 < u.length) (hv1 : 1 < v.length) (hN : u.length + v.length ≤ N + 1) :
    Calls Try.prog 35 #[.slice (some ⟨g, 0, none⟩) n cap, .int .i64 a, .int .i64 m, .int .i64 b, cmpF] w fun e w' => e = .returned (.tuple #[]) ∧ Sorted g cap n P (u ++ v) Q w' ∧ Kept (fun i => i = g) w w' := by
  have hlen := h.1
  simp only [List.length_append, List.length_cons] at hlen
  have hbn : b ≤ n := by omega
  have ham : a + 1 < m := by omega
  have hmb : m + 1 < b := by omega
  obtain ⟨d, hd⟩ : ∃ d, u.length = d := ⟨_, rfl⟩
  obtain ⟨d2, hd2⟩ : ∃ d, v.length = d := ⟨_, rfl⟩
  have hw1 : (m : Int) - (a : Int) = (d : Int) := by omega
  have hd1 : ((d : Int) == 1) = false := by simp; omega
  have hw2 : (b : Int) - (m : Int) = (d2 : Int) := by omega
  have hd3 : ((d2 : Int) == 1) = false := by simp; omega
  obtain ⟨mid, hmid⟩ : ∃ mid, (a + b) / 2 = mid := ⟨_, rfl⟩
  have hw3 : ((a : Int) + (b : Int)) / 2 = (mid : Int) := by omega
  obtain ⟨nn, hnn⟩ : ∃ nn, mid + m = nn := ⟨_, rfl⟩
  have hw4 : (mid : Int) + (m : Int) = (nn : Int) := by omega
  obtain ⟨p, hp⟩ : ∃ p, nn - 1 = p := ⟨_, rfl⟩
  have hw5 : (nn : Int) - 1 = (p : Int) := by omega
  obtain ⟨s0, r0, hspan⟩ : ∃ s0 r0, Span a m b mid nn p s0 r0 := by
    by_cases hc : mid < m
    · exact ⟨nn - b, mid, hmid.symm, hnn.symm, by omega, .inl ⟨hc, by omega, rfl⟩⟩
    · exact ⟨a, m, hmid.symm, hnn.symm, by omega, .inr ⟨by omega, rfl, rfl⟩⟩
  have HSP := Lib.hid hspan
  obtain ⟨f1, f2, f3, f4⟩ := hspan.facts (by omega) (by omega)
  have HF4 := Lib.hid f4
  have hnn2 : nn ≤ 2000000 := by omega
  have hpn : p ≤ 2000000 := by omega
  have H0 : Hid (CmpC g cap n (P ++ u ++ v ++ Q) w w) := Lib.hid ⟨h, Kept.refl _ _⟩
  have HU : Hid (∀ k, a ≤ k → k < m → ∃ e, u[k - a]? = some e ∧ (P ++ u ++ v ++ Q)[k]? = some e) := Lib.hid (fun k h1 h2 => by
    refine ⟨_, List.getElem?_eq_getElem (by omega), ?_⟩
    rw [List.append_assoc, List.append_assoc, List.getElem?_append_right (by omega), hP, List.getElem?_append_left (by omega)]
    exact List.getElem?_eq_getElem (by omega))
  have HV : Hid (∀ k, m ≤ k → k < b → ∃ e, v[k - m]? = some e ∧ (P ++ u ++ v ++ Q)[k]? = some e) := Lib.hid (fun k h1 h2 => by
    refine ⟨_, List.getElem?_eq_getElem (by omega), ?_⟩
    rw [List.append_assoc, List.append_assoc, List.getElem?_append_right (by omega), hP, List.getElem?_append_right (by omega), List.getElem?_append_left (by omega), show k - a - u.length = k - m by omega]
    exact List.getElem?_eq_getElem (by omega))
  have HLN : Hid (P.length = a ∧ a + u.length = m ∧ m + v.length = b ∧ u.length + v.length ≤ N + 1) := Lib.hid ⟨hP, hm, hb, hN⟩
  have HSU := Lib.hid hu
  have HSV := Lib.hid hv
  have HI := Lib.hid IH
  have HF0 : Hid (Srch u v a m p s0 r0 s0 r0) := Lib.hid ⟨fun c x y h1 h2 => by omega, fun c x y h1 h2 => by omega⟩
  clear h hP hm hb hu hv hu1 hv1 hlen hd hd2 hmid hnn hp hspan f4 hN IH
  obtain ⟨fv, hfv⟩ : ∃ fv, cmpF = fv := ⟨_, rfl⟩
  rw [hfv]
  have HF := Lib.hid hfv
  clear hfv
  go_enter Try.func35, Try.ntmps35
  go_upto_if 140 with (fail)
  go_cut [20, 21] from 138 to 146 (fun s20 s21 wx => s20 = .int .i64 s0 ∧ s21 = .int .i64 r0 ∧ w = wx)
  case first =>
    rcases HSP.out.or with ⟨q1, q2, q3⟩ | ⟨q1, q2, q3⟩
    · have q1' : (mid : Int) < (m : Int) := by omega
      have q2' : (nn : Int) - (b : Int) = (s0 : Int) := by omega
      go_wp2
      go_meet
      exact ⟨by first | rfl | (rw [q2']), by rw [q3], rfl⟩
    · have q1' : ¬ (mid : Int) < (m : Int) := by omega
      go_wp2
      go_meet
      exact ⟨by rw [q2], by rw [q3], rfl⟩
  case rest =>
    obtain ⟨rfl, rfl, rfl⟩ := hcut
    go_wp2
    go_loopw [20, 21] (fun s20 s21 wr => ∃ s r : Nat, s0 ≤ s ∧ s ≤ r ∧ r ≤ r0 ∧ s20 = .int .i64 s ∧ s21 = .int .i64 r ∧ Hid (Srch u v a m p s0 r0 s r) ∧ Hid (CmpC g cap n (P ++ u ++ v ++ Q) w wr)) (fun s20 s21 _ => (intOf s21).toNat - (intOf s20).toNat)
    case atStart => exact ⟨s0, r0, by omega, by omega, by omega, rfl, rfl, HF0, H0⟩
    case round =>
      clear H0 HF0
      obtain ⟨s, r, h1, h2, h3, rfl, rfl, HFo, HC⟩ := hrel
      by_cases hlt : s < r
      · have hlt' : (s : Int) < (r : Int) := by omega
        obtain ⟨c, hc⟩ : ∃ c : Nat, (s + r) / 2 = c := ⟨_, rfl⟩
        have hc1 : ((s : Int) + (r : Int)) / 2 = (c : Int) := by omega
        have hsc : s ≤ c := by omega
        have hcr : c < r := by omega
        obtain ⟨g1, g2, g3⟩ := HF4.out c (by omega) (by omega)
        obtain ⟨q, hq⟩ : ∃ q, p - c = q := ⟨_, rfl⟩
        have hwq : IntKind.i64.wrap ((p : Int) - (c : Int)) = (q : Int) := by rw [IntKind.wrap_i64]; omega
        have hwq2 : (p : Int) - (c : Int) = (q : Int) := by omega
        rw [hq] at g2 g3
        obtain ⟨x, hx, hlx⟩ := HU.out c (by omega) (by omega)
        obtain ⟨y, hy, hly⟩ := HV.out q (by omega) (by omega)
        rw [← hq] at hy
        have HX := Lib.hid hx
        have HY := Lib.hid hy
        have HLX := Lib.hid hlx
        have HLY := Lib.hid hly
        have hc1 : ¬ (c : Int) < 0 := by omega
        have hc2 : ¬ (n : Int) ≤ (c : Int) := by omega
        have hc3 : (c : Int) < (n : Int) := by omega
        have hq1 : ¬ (q : Int) < 0 := by omega
        have hq2 : ¬ (n : Int) ≤ (q : Int) := by omega
        have hq3 : (q : Int) < (n : Int) := by omega
        clear hx hy hlx hly hc hq
        by_cases hyx : y.1 < x.1
        · have hcm : decide (cmpI y.1 x.1 < 0) = true := decide_eq_true (cmpI_lt.2 hyx)
          have HN := Lib.hid (HFo.out.left HSU.out HSV.out HX.out HY.out hyx)
          clear hyx
          go_wp2
          have hcc : CmpC g cap n (P ++ u ++ v ++ Q) w wr.drew := ⟨HC.out.1.drew, HC.out.2.drew⟩
          refine wp_region_class (CmpC g cap n (P ++ u ++ v ++ Q) w) (by kernel_rfl) (by kernel_rfl) hcc ?_
          clear hcc
          iterate 6 (go_big_quiet_step ((intros; rfl)))
          refine q_elem y rfl rfl rfl HLY.out ?_
          simp only [Act.put, List.setIfInBounds_toArray, List.set_cons_zero, List.set_cons_succ]
          iterate 3 (go_big_quiet_step ((intros; rfl)))
          refine q_elem x rfl rfl rfl HLX.out ?_
          simp only [Act.put, List.setIfInBounds_toArray, List.set_cons_zero, List.set_cons_succ]
          refine q_cmp y x rfl HF.out.symm rfl rfl ?_
          simp only [Act.put, List.setIfInBounds_toArray, List.set_cons_zero, List.set_cons_succ]
          iterate 2 (go_big_quiet_step ((intros; rfl)))
          refine wpQuiet_nil ?_
          intro w2 hC0
          have hC := Lib.hid hC0
          clear hC0
          go_wp2
          go_roundw
          case rel => exact ⟨s, c, by omega, by omega, by omega, rfl, rfl, HN, hC⟩
          case measure => simp [intOf] <;> omega
        · have hcm : decide (cmpI y.1 x.1 < 0) = false := decide_eq_false (fun h => hyx (cmpI_lt.1 h))
          have HN := Lib.hid (HFo.out.right HSU.out HSV.out HX.out HY.out hyx)
          clear hyx
          go_wp2
          have hcc : CmpC g cap n (P ++ u ++ v ++ Q) w wr.drew := ⟨HC.out.1.drew, HC.out.2.drew⟩
          refine wp_region_class (CmpC g cap n (P ++ u ++ v ++ Q) w) (by kernel_rfl) (by kernel_rfl) hcc ?_
          clear hcc
          iterate 6 (go_big_quiet_step ((intros; rfl)))
          refine q_elem y rfl rfl rfl HLY.out ?_
          simp only [Act.put, List.setIfInBounds_toArray, List.set_cons_zero, List.set_cons_succ]
          iterate 3 (go_big_quiet_step ((intros; rfl)))
          refine q_elem x rfl rfl rfl HLX.out ?_
          simp only [Act.put, List.setIfInBounds_toArray, List.set_cons_zero, List.set_cons_succ]
          refine q_cmp y x rfl HF.out.symm rfl rfl ?_
          simp only [Act.put, List.setIfInBounds_toArray, List.set_cons_zero, List.set_cons_succ]
          iterate 2 (go_big_quiet_step ((intros; rfl)))
          refine wpQuiet_nil ?_
          intro w2 hC0
          have hC := Lib.hid hC0
          clear hC0
          go_wp2
          go_roundw
          case rel => exact ⟨c + 1, r, by omega, by omega, by omega, by go_num, rfl, HN, hC⟩
          case measure => simp [intOf] <;> omega
      · obtain rfl : s = r := by omega
        obtain ⟨e, he⟩ : ∃ e, nn - s = e := ⟨_, rfl⟩
        have hsnn : s ≤ nn := by have := HSP.out.nn_; omega
        have hwe : (nn : Int) - (s : Int) = (e : Int) := by omega
        obtain ⟨U1, U2, V1, V2, eu, ev, l1, l2, l3, l4, hVU, hUV, b1, b2, b3, b4, b5, b6⟩ := HFo.out.parts HSP.out HSU.out HSV.out HLN.out.2.1 HLN.out.2.2.1 (by omega) (by omega) h1 h3 (show e + s = nn by omega)
        obtain ⟨e1, e2, e3, e4⟩ := HLN.out
        rw [eu] at e2 e4
        rw [ev] at e3 e4
        rw [List.length_append] at e2 e3
        rw [List.length_append, List.length_append] at e4
        have hu := HSU.out
        have hv := HSV.out
        rw [eu] at hu
        rw [ev] at hv
        have hu' := srt_append.1 hu
        have hv' := srt_append.1 hv
        have hmm : mid = s + (e - m) := by have := HSP.out.nn_; omega
        -- the rotation
        have HR0 : Hid (Row wr g cap n (P ++ U1 ++ U2 ++ V1 ++ (V2 ++ Q)) ∧ Kept (fun i => i = g) w wr) := Lib.hid ⟨by have := HC.out.1; rw [eu, ev] at this; simpa using this, HC.out.2⟩
        have HROT : Hid (s < m → m < e → ∀ w', Row w' g cap n (P ++ U1 ++ U2 ++ V1 ++ (V2 ++ Q)) → Calls Try.prog 36 #[.slice (some ⟨g, 0, none⟩) n cap, .int .i64 s, .int .i64 m, .int .i64 e, fv] w' fun e w'' => e = .returned (.tuple #[]) ∧ Row w'' g cap n (P ++ U1 ++ V1 ++ U2 ++ (V2 ++ Q)) ∧ Kept (fun i => i = g) w' w'') :=
          Lib.hid (fun h1 h2 w' hw => by
            have := rotate_any g cap n s m e fv (P ++ U1) U2 V1 (V2 ++ Q) w' (by simpa using hw) hn (by rw [List.length_append]; omega) (by omega) (by omega) (by omega) (by omega)
            simpa using this)
        have HNR : Hid (¬ (s < m ∧ m < e) → P ++ U1 ++ U2 ++ V1 ++ (V2 ++ Q) = P ++ U1 ++ V1 ++ U2 ++ (V2 ++ Q)) := Lib.hid (fun hno => by
          by_cases c1 : s < m
          · have : V1 = [] := List.eq_nil_of_length_eq_zero (by omega)
            subst this; simp
          · have : U2 = [] := List.eq_nil_of_length_eq_zero (by omega)
            subst this; simp)
        -- the two calls
        have HLEFT : Hid (a < s → s < mid → ∀ w', Row w' g cap n (P ++ U1 ++ V1 ++ (U2 ++ V2 ++ Q)) → Calls Try.prog 35 #[.slice (some ⟨g, 0, none⟩) n cap, .int .i64 a, .int .i64 s, .int .i64 mid, fv] w' fun e w'' => e = .returned (.tuple #[]) ∧ Sorted g cap n P (U1 ++ V1) (U2 ++ V2 ++ Q) w'' ∧ Kept (fun i => i = g) w' w'') :=
          Lib.hid (fun h1 h2 w' hw => by
            rw [← HF.out]
            exact HI.out a s mid P U1 V1 (U2 ++ V2 ++ Q) w' hw e1 (by omega) (by omega) (by omega) (by omega) hu'.1 hv'.1 (by omega))
        have HNL : Hid (¬ (a < s ∧ s < mid) → Srt (U1 ++ V1)) := Lib.hid (fun hno => by
          by_cases c1 : a < s
          · have : V1 = [] := List.eq_nil_of_length_eq_zero (by omega)
            subst this; simpa using hu'.1
          · have : U1 = [] := List.eq_nil_of_length_eq_zero (by omega)
            subst this; simpa using hv'.1)
        have HRIGHT : Hid (mid < e → e < b → ∀ w' t1, t1.length = U1.length + V1.length → Row w' g cap n ((P ++ t1) ++ U2 ++ V2 ++ Q) → Calls Try.prog 35 #[.slice (some ⟨g, 0, none⟩) n cap, .int .i64 mid, .int .i64 e, .int .i64 b, fv] w' fun e w'' => e = .returned (.tuple #[]) ∧ Sorted g cap n (P ++ t1) (U2 ++ V2) Q w'' ∧ Kept (fun i => i = g) w' w'') :=
          Lib.hid (fun h1 h2 w' t1 ht hw => by
            rw [← HF.out]
            exact HI.out mid e b (P ++ t1) U2 V2 Q w' hw (by rw [List.length_append]; omega) (by omega) (by omega) (by omega) (by omega) hu'.2.1 hv'.2.1 (by omega))
        have HNRT : Hid (¬ (mid < e ∧ e < b) → Srt (U2 ++ V2)) := Lib.hid (fun hno => by
          by_cases c1 : mid < e
          · have : V2 = [] := List.eq_nil_of_length_eq_zero (by omega)
            subst this; simpa using hu'.2.1
          · have : U2 = [] := List.eq_nil_of_length_eq_zero (by omega)
            subst this; simpa using hv'.2.1)
        have HEND : Hid (∀ t1 t2, Srt t1 → Stab (U1 ++ V1) t1 → Srt t2 → Stab (U2 ++ V2) t2 → ∀ w', Row w' g cap n (P ++ t1 ++ t2 ++ Q) → Sorted g cap n P (u ++ v) Q w') := Lib.hid (fun t1 t2 x1 x2 x3 x4 w' hw => by
          have := merge_two hu hv hVU hUV x1 x2 x3 x4
          rw [eu, ev]
          exact ⟨t1 ++ t2, this.1, this.2, by simpa using hw⟩)
        have hlt' : ¬ (s : Int) < (s : Int) := by omega
        have hsn : s < n := by omega
        clear HC HFo eu ev l1 l2 l3 l4 hVU hUV e1 e2 e3 e4 hu hv hu' hv' hmm he hlt
        obtain ⟨rb, hrb⟩ : ∃ rb : Bool, (rb = true ↔ (s < m ∧ m < e)) := ⟨decide (s < m ∧ m < e), by simp⟩
        have HRB := Lib.hid hrb
        clear hrb
        go_upto_region 39 with (fail)
        go_cut [185] from 178 to 185 (fun s wx => s = .bool rb ∧ wr = wx)
        case first =>
          by_cases c1 : s < m
          · have c1' : (s : Int) < (m : Int) := by omega
            by_cases c2 : m < e
            · have c2' : (m : Int) < (e : Int) := by omega
              have hE := Lib.hid (HRB.out.2 ⟨c1, c2⟩)
              go_wp2
              go_meet
              exact ⟨by rw [hE.out], rfl⟩
            · have c2' : ¬ (m : Int) < (e : Int) := by omega
              have hE : Hid (rb = false) := Lib.hid (by cases hq : rb with | false => rfl | true => exact absurd (HRB.out.1 hq).2 c2)
              go_wp2
              go_meet
              exact ⟨by rw [hE.out], rfl⟩
          · have c1' : ¬ (s : Int) < (m : Int) := by omega
            have hE : Hid (rb = false) := Lib.hid (by cases hq : rb with | false => rfl | true => exact absurd (HRB.out.1 hq).1 c1)
            go_wp2
            go_meet
            exact ⟨by rw [hE.out], rfl⟩
        case rest =>
          obtain ⟨rfl, rfl⟩ := hcut
          go_upto_if 185 with (fail)
          go_cut [] from 186 to 191 (fun wx => Hid (Row wx g cap n (P ++ U1 ++ V1 ++ (U2 ++ V2 ++ Q)) ∧ Kept (fun i => i = g) w wx))
          case first =>
            cases rb
            case true =>
              go_wp2_with fail
              refine (HROT.out (HRB.out.1 (by simp)).1 (HRB.out.1 (by simp)).2 _ HR0.out.1).mono ?_
              rintro e' w2 ⟨rfl, hr2, hk2⟩
              have HZ : Hid (Row w2 g cap n (P ++ U1 ++ V1 ++ (U2 ++ V2 ++ Q)) ∧ Kept (fun i => i = g) w w2) := Lib.hid ⟨by simpa using hr2, HR0.out.2.trans hk2 (fun _ _ h => h)⟩
              clear hr2 hk2
              go_wp2_with fail
              go_meet
              exact HZ
            case false =>
              have HZ : Hid (Row wr g cap n (P ++ U1 ++ V1 ++ (U2 ++ V2 ++ Q)) ∧ Kept (fun i => i = g) w wr) := Lib.hid ⟨by have := HR0.out.1; rw [HNR.out (fun h => by have := HRB.out.2 h; cases this)] at this; simpa using this, HR0.out.2⟩
              go_wp2_with fail
              go_meet
              exact HZ
          case rest =>
            have HR1 := hcut
            clear hcut HR0 HROT HNR HRB
            obtain ⟨rb, hrb⟩ : ∃ rb : Bool, (rb = true ↔ (a < s ∧ s < mid)) := ⟨decide (a < s ∧ s < mid), by simp⟩
            have HRB := Lib.hid hrb
            clear hrb
            go_upto_region 41 with (fail)
            go_cut [199] from 192 to 199 (fun s wx => s = .bool rb ∧ wc = wx)
            case first =>
              by_cases c1 : a < s
              · have c1' : (a : Int) < (s : Int) := by omega
                by_cases c2 : s < mid
                · have c2' : (s : Int) < (mid : Int) := by omega
                  have hE := Lib.hid (HRB.out.2 ⟨c1, c2⟩)
                  go_wp2
                  go_meet
                  exact ⟨by rw [hE.out], rfl⟩
                · have c2' : ¬ (s : Int) < (mid : Int) := by omega
                  have hE : Hid (rb = false) := Lib.hid (by cases hq : rb with | false => rfl | true => exact absurd (HRB.out.1 hq).2 c2)
                  go_wp2
                  go_meet
                  exact ⟨by rw [hE.out], rfl⟩
              · have c1' : ¬ (a : Int) < (s : Int) := by omega
                have hE : Hid (rb = false) := Lib.hid (by cases hq : rb with | false => rfl | true => exact absurd (HRB.out.1 hq).1 c1)
                go_wp2
                go_meet
                exact ⟨by rw [hE.out], rfl⟩
            case rest =>
              obtain ⟨rfl, rfl⟩ := hcut
              go_upto_if 199 with (fail)
              go_cut [] from 200 to 205 (fun wx => Hid (Sorted g cap n P (U1 ++ V1) (U2 ++ V2 ++ Q) wx ∧ Kept (fun i => i = g) w wx))
              case first =>
                cases rb
                case true =>
                  go_wp2_with fail
                  refine (HLEFT.out (HRB.out.1 (by simp)).1 (HRB.out.1 (by simp)).2 _ HR1.out.1).mono ?_
                  rintro e' w2 ⟨rfl, hr2, hk2⟩
                  have HZ : Hid (Sorted g cap n P (U1 ++ V1) (U2 ++ V2 ++ Q) w2 ∧ Kept (fun i => i = g) w w2) := Lib.hid ⟨hr2, HR1.out.2.trans hk2 (fun _ _ h => h)⟩
                  clear hr2 hk2
                  go_wp2_with fail
                  go_meet
                  exact HZ
                case false =>
                  have HZ : Hid (Sorted g cap n P (U1 ++ V1) (U2 ++ V2 ++ Q) wc ∧ Kept (fun i => i = g) w wc) := Lib.hid ⟨⟨U1 ++ V1, HNL.out (fun h => by have := HRB.out.2 h; cases this), Stab.refl _, by simpa using HR1.out.1⟩, HR1.out.2⟩
                  go_wp2_with fail
                  go_meet
                  exact HZ
              case rest =>
                obtain ⟨⟨t1, x1, x2, hr⟩, hk⟩ := hcut.out
                have ht1 := x2.len
                rw [List.length_append] at ht1
                have HX1 := Lib.hid x1
                have HX2 := Lib.hid x2
                have HR2 : Hid (Row wc g cap n ((P ++ t1) ++ U2 ++ V2 ++ Q)) := Lib.hid (by simpa using hr)
                have HT1 := Lib.hid ht1
                clear hcut HR1 HLEFT HNL x1 x2 hr ht1 HRB
                obtain ⟨rb, hrb⟩ : ∃ rb : Bool, (rb = true ↔ (mid < e ∧ e < b)) := ⟨decide (mid < e ∧ e < b), by simp⟩
                have HRB := Lib.hid hrb
                clear hrb
                go_upto_region 43 with (fail)
                go_cut [213] from 206 to 213 (fun s wx => s = .bool rb ∧ wc = wx)
                case first =>
                  by_cases c1 : mid < e
                  · have c1' : (mid : Int) < (e : Int) := by omega
                    by_cases c2 : e < b
                    · have c2' : (e : Int) < (b : Int) := by omega
                      have hE := Lib.hid (HRB.out.2 ⟨c1, c2⟩)
                      go_wp2
                      go_meet
                      exact ⟨by rw [hE.out], rfl⟩
                    · have c2' : ¬ (e : Int) < (b : Int) := by omega
                      have hE : Hid (rb = false) := Lib.hid (by cases hq : rb with | false => rfl | true => exact absurd (HRB.out.1 hq).2 c2)
                      go_wp2
                      go_meet
                      exact ⟨by rw [hE.out], rfl⟩
                  · have c1' : ¬ (mid : Int) < (e : Int) := by omega
                    have hE : Hid (rb = false) := Lib.hid (by cases hq : rb with | false => rfl | true => exact absurd (HRB.out.1 hq).1 c1)
                    go_wp2
                    go_meet
                    exact ⟨by rw [hE.out], rfl⟩
                case rest =>
                  obtain ⟨rfl, rfl⟩ := hcut
                  cases rb
                  case true =>
                    go_wp2_with fail
                    refine (HRIGHT.out (HRB.out.1 (by simp)).1 (HRB.out.1 (by simp)).2 _ t1 HT1.out.symm HR2.out).mono ?_
                    rintro e' w2 ⟨rfl, hr2, hk2⟩
                    obtain ⟨t2, y1, y2, hr3⟩ := hr2
                    have HZ : Hid (Sorted g cap n P (u ++ v) Q w2 ∧ Kept (fun i => i = g) w w2) := Lib.hid ⟨HEND.out t1 t2 HX1.out HX2.out y1 y2 _ hr3, hk.trans hk2 (fun _ _ h => h)⟩
                    clear y1 y2 hr3 hk2
                    go_wp2_with fail
                    go_end0
                    exact ⟨rfl, HZ.out⟩
                  case false =>
                    have HZ : Hid (Sorted g cap n P (u ++ v) Q wc) := Lib.hid (HEND.out t1 (U2 ++ V2) HX1.out HX2.out (HNRT.out (fun h => by have := HRB.out.2 h; cases this)) (Stab.refl _) _ (by simpa using HR2.out))
                    go_wp2_with fail
                    go_end0
                    exact ⟨rfl, HZ.out, hk⟩
set_option maxRecDepth 100000 in
theorem sym_all (g cap n : Nat) (hn : n ≤ 1000000) : ∀ N, SymC g cap n N
  | 0 => fun a m b P u v Q w h hP hm hb hu hv su sv hN => by omega
  | N + 1 => fun a m b P u v Q w h hP hm hb hu hv su sv hN => by
    by_cases h1 : u.length = 1
    · obtain ⟨x, rfl⟩ := List.length_eq_one_iff.1 h1
      have h' : Row w g cap n (P ++ x :: (v ++ Q)) := by simpa using h
      have hm' : a + 1 = m := hm
      refine (sym_one g cap n a m b P v Q x w h' hn hP hm' hb sv hv).mono ?_
      rintro e w' ⟨he, hs, hk⟩
      exact ⟨he, hs, hk⟩
    · by_cases h2 : v.length = 1
      · obtain ⟨y, rfl⟩ := List.length_eq_one_iff.1 h2
        have h' : Row w g cap n (P ++ u ++ y :: Q) := by simpa using h
        exact sym_last g cap n a b m P u Q y w h' hn hP hm (by simpa using hb) su (by omega)
      · exact sym_two g cap n a b m N P u v Q w (sym_all g cap n hn N) h hn hP hm hb su sv (by omega) (by omega) hN
end Go.Proofs.Ytinndmglacfofaa
