/- The walk of LanesAhead. -/
import Derived.Test.YtlmjhggnecmggaaLive
import Derived.Test.YtlmjhggnecmggaaOpen
import Derived.OpenShut
namespace Go.Proofs.Ytlmjhggnecmggaa
open Go Go.RowKit Go.OpenShut
set_option linter.unusedVariables false
set_option linter.unusedSimpArgs false

/-- The exit -77 of class c waits behind just B. -/
def Queued (c : Int) (F V B : List Int) : Prop := (c = 0 ∧ F = B ++ [-77]) ∨ (c = 1 ∧ ∃ U, V = U ++ [-77] ∧ F ++ U = B)
theorem queued_push {n : Nat} {F V : List Int} {c : Int} (hc : c = 0 ∨ c = 1) (h1 : F.length ≤ n) (h2 : V.length ≤ n) :
    (errP n F V c = 0 ∧ Queued c (pushF n F c (-77)) (pushV n V c (-77)) (aheadL F V c)) ∨ (errP n F V c = 6 ∧ freeN n F V c = 0) := by
  rcases hc with rfl | rfl
  · by_cases h : F.length < n
    · exact .inl ⟨by simp [errP, h], .inl ⟨rfl, by simp [pushF, h, aheadL]⟩⟩
    · exact .inr ⟨by simp [errP, h], by simp [freeN]; omega⟩
  · by_cases h : V.length < n
    · exact .inl ⟨by simp [errP, h], .inr ⟨rfl, V, by simp [pushV, h], by simp [pushF, aheadL]⟩⟩
    · exact .inr ⟨by simp [errP, h], by simp [freeN]; omega⟩
theorem push_same {n : Nat} {F V : List Int} {c x : Int} (hc : c = 0 ∨ c = 1) (h : errP n F V c ≠ 0) : pushF n F c x = F ∧ pushV n V c x = V := by
  rcases hc with rfl | rfl
  · by_cases hl : F.length < n
    · exact absurd (by simp [errP, hl]) h
    · exact ⟨by simp [pushF, hl], by simp [pushV]⟩
  · by_cases hl : V.length < n
    · exact absurd (by simp [errP, hl]) h
    · exact ⟨by simp [pushF], by simp [pushV, hl]⟩
theorem queued_step {F V B : List Int} {c y : Int} (h : Queued c F V (y :: B)) : hdI F V = y ∧ hdB F V = true ∧ Queued c (popF F) (popV F V) B := by
  rcases h with ⟨rfl, rfl⟩ | ⟨rfl, U, rfl, h⟩
  · exact ⟨rfl, rfl, .inl ⟨rfl, rfl⟩⟩
  · rcases F with _ | ⟨x, F⟩
    · have h : U = y :: B := h
      subst h
      exact ⟨rfl, rfl, .inr ⟨rfl, B, rfl, rfl⟩⟩
    · injection h with h1 h2
      exact ⟨h1, rfl, .inr ⟨rfl, U, rfl, h2⟩⟩
theorem queued_end {F V : List Int} {c : Int} (h : Queued c F V []) : hdI F V = -77 ∧ hdC F V = c ∧ hdB F V = true := by
  rcases h with ⟨rfl, rfl⟩ | ⟨rfl, U, rfl, h⟩
  · exact ⟨rfl, rfl, rfl⟩
  · obtain ⟨rfl, rfl⟩ := List.append_eq_nil_iff.1 h
    exact ⟨rfl, rfl, rfl⟩
theorem IntsAt.goes {w w1 : World} {S S' : Nat → Prop} {a : Option Addr} {L : List Int} (h : IntsAt w S a L) (g : Goes S S' w w1) : IntsAt w1 S' a L := fun h0 => by
  obtain ⟨b, o, e, hn, hb, hc⟩ := h h0
  exact ⟨b, o, e, fun hs => (g.2 b hs).elim hn (fun h => by omega), Nat.lt_of_lt_of_le hb g.1.size, fun j hj => g.1.cell hn (hc j hj)⟩
theorem drop_get {L : List Int} {k : Nat} (h : k < L.length) : L.drop k = L.getD k 0 :: L.drop (k + 1) := by
  rw [List.drop_eq_getElem_cons h, List.getD_eq_getElem?_getD, List.getElem?_eq_getElem h]
  rfl

set_option maxHeartbeats 800000 in
theorem walk_LanesAhead (a0 : Int) (a1 : Option Addr) (len1 cap1 : Nat) (a2 : Int) (w : World) (w0 : (Lit.int .u8 a0).wf = true) (w1 : IsOps w a1 len1 cap1) (w2 : (Lit.int .u8 a2).wf = true) :
    Calls Try.prog 6 #[.int .u8 a0, .slice a1 len1 cap1, .int .u8 a2] w fun e w' => e = .returned (.bool true) ∧ Below w.heap.size w w' := by
  obtain ⟨x0, x1⟩ := bounds_u8 w0
  obtain ⟨z0, z1⟩ := bounds_u8 w2
  obtain ⟨n, hn, hn1, hn2⟩ : ∃ n : Nat, a0 + 1 = n ∧ 1 ≤ n ∧ n ≤ 256 := ⟨(a0 + 1).toNat, by omega, by omega, by omega⟩
  obtain ⟨c, hc⟩ : ∃ c : Int, a2 % 2 = c := ⟨_, rfl⟩
  have HC : Hid (c = 0 ∨ c = 1) := Lib.hid (by omega)
  have W1 := Lib.hid w1
  have hl1 : len1 ≤ 9223372036854775807 := by have := w1.1; have := w1.2.1; unfold maxLen at this; omega
  have HN := Lib.hid (fun w => Own.new n w hn1 (by omega))
  clear w0 w1 w2
  go_enter Try.func6, Try.ntmps6
  go_wp2_with fail
  refine (HN.out _).mono ?_
  rintro e w1 ⟨rfl, S1, O1⟩
  clear HN
  by_cases h100 : (100 : Int) < (len1 : Int)
  · go_wp2_with fail
    refine (alive_any _).mono ?_
    rintro e w2 ⟨rfl, hb⟩
    have HB := Lib.hid (O1.out.below hb).2.2
    clear hb O1
    go_wp2_with fail
    go_ret
    exact ⟨rfl, HB.out⟩
  · go_wp2_with fail
    go_loopw [32] (fun s32 wr => ∃ (k : Nat) (F V : List Int) (S : Nat → Prop), k ≤ len1 ∧ s32 = .int .i64 k ∧ Hid (Own w wr w.heap.size S n F V)) (fun s32 _ => len1 - (intOf s32).toNat)
    case atStart => exact ⟨0, [], [], S1, by omega, rfl, O1⟩
    case round =>
      clear O1
      obtain ⟨k, F, V, S, hk, rfl, O⟩ := hrel
      by_cases hlt : k < len1
      · obtain ⟨lb, lo, p, d, x, rfl, y0, y1, y2⟩ := W1.out.at O.out.2.2 hlt
        have O2 := Lib.hid (O.out.alloc (.cells #[.bool p, .int .i64 d, .int .i64 x] 31))
        have E0 : (wr.alloc (.cells #[.bool p, .int .i64 d, .int .i64 x] 31)).cell? ⟨wr.heap.size, 0, none⟩ = some (.bool p) := (Blk.new wr 31 #[.bool p, .int .i64 d, .int .i64 x]).cell 0
        have E1 : (wr.alloc (.cells #[.bool p, .int .i64 d, .int .i64 x] 31)).cell? ⟨wr.heap.size, 1, none⟩ = some (.int .i64 d) := (Blk.new wr 31 #[.bool p, .int .i64 d, .int .i64 x]).cell 1
        have E2 : (wr.alloc (.cells #[.bool p, .int .i64 d, .int .i64 x] 31)).cell? ⟨wr.heap.size, 2, none⟩ = some (.int .i64 x) := (Blk.new wr 31 #[.bool p, .int .i64 d, .int .i64 x]).cell 2
        clear O
        cases p
        · have HP := Lib.hid (O2.out.push d x)
          go_wp2_with fail
          refine HP.out.mono ?_
          rintro e w3 ⟨rfl, S3, O3, _⟩
          clear HP O2 E0 E1 E2 y0 y1 y2
          go_wp2_with fail
          go_roundw
          case rel => exact ⟨k + 1, _, _, S3, by omega, by go_num, O3⟩
          case measure => simp [intOf]; omega
        · have HP := Lib.hid O2.out.pop
          go_wp2_with fail
          refine HP.out.mono ?_
          rintro e w3 ⟨rfl, S3, O3, _⟩
          clear HP O2 E0 E1 E2 y0 y1 y2
          go_wp2_with fail
          go_roundw
          case rel => exact ⟨k + 1, _, _, S3, by omega, by go_num, O3⟩
          case measure => simp [intOf]; omega
      · obtain rfl : k = len1 := by omega
        clear hlt
        have hlt : ¬ k < k := by omega
        have HA := Lib.hid (ahead_any c O.out.1)
        go_wp2_with fail
        refine HA.out.mono ?_
        rintro e w2 ⟨v, rfl, ho, hb⟩
        have O2 := Lib.hid (O.out.below hb)
        obtain ⟨a, cp, rfl, hl, hcp, hmx, hi⟩ := ints_of_owns (S := S) ho (fun i hi hs => by have := (ho.lt i hi).1; have := O.out.1.lt i hs; omega)
        have HI := Lib.hid hi
        obtain ⟨A, hA⟩ : ∃ A, aheadL F V c = A := ⟨_, rfl⟩
        obtain ⟨q, hq⟩ : ∃ q, A.length = q := ⟨_, rfl⟩
        have hq9 : q ≤ 9223372036854775807 := by rw [hA, hq] at hcp; unfold maxLen at hmx; omega
        have QP := Lib.hid (queued_push HC.out O2.out.1.size.1 O2.out.1.size.2.1)
        rw [hA] at HI QP ⊢
        have HPU := Lib.hid (O2.out.push c (-77))
        have HQ := Lib.hid hq
        rw [hq]
        clear hb ho HA O hi hl hcp hmx hA hq
        go_wp2_with fail
        refine HPU.out.mono ?_
        rintro e w3 ⟨rfl, S3, O3, G3⟩
        have I3 := Lib.hid (HI.out.goes G3.out)
        clear HPU HI G3
        rcases QP.out with ⟨he, hqu⟩ | ⟨he, hfr⟩
        · rw [he]
          have QU := Lib.hid hqu
          clear he hqu QP O2
          go_wp2_with fail
          go_loopw [66] (fun s66 wr => ∃ (j : Nat) (F' V' : List Int) (S : Nat → Prop), j ≤ q ∧ s66 = .int .i64 j ∧ Hid (Own w wr w.heap.size S n F' V') ∧ Hid (Queued c F' V' (A.drop j)) ∧ Hid (IntsAt wr S a A)) (fun s66 _ => q - (intOf s66).toNat)
          case atStart => exact ⟨0, _, _, S3, by omega, rfl, O3, QU, I3⟩
          case round =>
            clear O3 QU I3
            obtain ⟨j, F', V', S', hj, rfl, O, QU, I⟩ := hrel
            by_cases hjq : j < q
            · obtain ⟨g, o, rfl, _, _, hcell⟩ := I.out (by rw [HQ.out]; omega)
              obtain ⟨y, hy⟩ : ∃ y, A.getD j 0 = y := ⟨_, rfl⟩
              have c0 : wr.cell? ⟨g, o + j, none⟩ = some (.int .i64 y) := by rw [← hy]; exact hcell j (by rw [HQ.out]; exact hjq)
              have hst := queued_step (y := y) (B := A.drop (j + 1)) (by
                have := QU.out
                rwa [drop_get (by rw [HQ.out]; exact hjq), hy] at this)
              have QU2 := Lib.hid hst.2.2
              have HP := Lib.hid O.out.pop
              rw [hst.1, hst.2.1] at HP
              clear hy hst hcell QU
              go_wp2_with fail
              refine HP.out.mono ?_
              rintro e w5 ⟨rfl, S5, O5, G5⟩
              have I5 := Lib.hid (I.out.goes G5.out)
              clear HP I G5 O c0
              go_wp2_with fail
              go_roundw
              case rel => exact ⟨j + 1, _, _, S5, by omega, by go_num, O5, QU2, I5⟩
              case measure => simp [intOf]; omega
            · obtain rfl : j = q := by omega
              clear hjq
              have hjq : ¬ j < j := by omega
              have hend := queued_end (by
                have := QU.out
                rwa [List.drop_of_length_le (by rw [HQ.out]; exact Nat.le_refl _)] at this)
              have HP := Lib.hid O.out.pop
              rw [hend.1, hend.2.1, hend.2.2] at HP
              clear hend QU I O
              go_wp2_with fail
              refine HP.out.mono ?_
              rintro e w5 ⟨rfl, S5, O5, G5⟩
              clear HP G5
              go_wp2_with fail
              refine (alive_any _).mono ?_
              rintro e w6 ⟨rfl, hb⟩
              have HB := Lib.hid (O5.out.below hb).2.2
              clear hb O5
              go_wp2_with fail
              go_ret
              exact ⟨rfl, HB.out⟩
        · rw [he]
          have HF : Hid (∀ w', Below w3.heap.size w3 w' → Calls Try.prog 18 #[.pointer (some ⟨w.heap.size, 0, none⟩), .int .i64 c] w' fun e w'' => e = .returned (.int .i64 0) ∧ ∃ m, w'' = w'.drewN m) := Lib.hid (fun w' hb => by
            have h1 : errP n F V c ≠ 0 := by rw [he]; decide
            have hp : pushF n F c (-77) = F ∧ pushV n V c (-77) = V := push_same HC.out h1
            have := (O3.out.below hb).free c
            rw [hp.1, hp.2, hfr] at this
            exact this)
          clear he hfr QP O2
          go_wp2_with fail
          refine (alive_any _).mono ?_
          rintro e w6 ⟨rfl, hb⟩
          have HB := Lib.hid (O3.out.below hb).2.2
          have HF6 := Lib.hid (HF.out w6 hb)
          clear hb O3 HF I3
          go_wp2_with fail
          refine HF6.out.mono ?_
          rintro e w7 ⟨rfl, m, hm⟩
          have HB7 : Hid (Below w.heap.size w w7) := by rw [hm]; exact Lib.hid (below_drewN HB.out m)
          clear hm HF6 HB
          go_wp2_with fail
          go_ret
          exact ⟨rfl, HB7.out⟩
end Go.Proofs.Ytlmjhggnecmggaa
