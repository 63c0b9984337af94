/- Step: a boundary. -/
import Derived.Test.YtkeclanbebiogaaProc
namespace Go.Proofs.Ytkeclanbebiogaa
open Go Go.RowKit
set_option linter.unusedVariables false
set_option linter.unusedSimpArgs false
set_option maxRecDepth 100000

/-- The balance behind a grant; what a boundary assigns and leaves; the balance behind it; what it spends. -/
def gr (B x : Int) : Int := B + (if 18446744073709551615 - B < x then 18446744073709551615 - B else x)
def stp (om : Int → Int) (F V : List Int) (B x : Int) : List (Int × Int) × List Int × List Int × Int := asg om F V (gr B x)
def balOf (r : List (Int × Int) × List Int × List Int × Int) : Int := if hdB r.2.1 r.2.2.1 = true then r.2.2.2 else 0
/-- Lanes, a meter and a row of assignments behind a boundary, seen from w. -/
def SInv (w : World) (b m nn : Nat) (S : Nat → Prop) (ep : Int) (wr : World) (v : Value) (out : List (Int × Int)) (F V : List Int) (B Sp : Int) : Prop :=
  ∃ S1 T1 D1, Ln wr b S1 nn F V ∧ (∀ i, S1 i → S i ∨ w.heap.size ≤ i) ∧ ¬ S1 m ∧ MetAt wr m B Sp T1 D1 ∧ Fits B Sp T1 D1 ∧
    wr.ownsRow w.heap.size 51 3 v out.length (rowA ep out) ∧ (∀ g, v.ownBlock = some g → ¬ S1 g) ∧ Kept (fun i => i = m ∨ S i) w wr ∧ m < w.heap.size
theorem owns_base {w : World} {base base' n size : Nat} {e : TypeId} {v : Value} {xs : List Value} (h : w.ownsRow base e size v n xs) (hb : base' ≤ base) : w.ownsRow base' e size v n xs := by
  obtain ⟨h1, h2⟩ := h
  refine ⟨h1, ?_⟩
  rcases h2 with h2 | ⟨g, cap, cur, rfl, h3, h4⟩
  · exact .inl h2
  · exact .inr ⟨g, cap, cur, rfl, Nat.le_trans hb h3, h4⟩
section
variable {w w1 wr w' : World} {b m nn : Nat} {S : Nat → Prop} {Sp B0 D ep B x : Int} {v : Value} {out : List (Int × Int)} {F V : List Int}
/-- The boundary began before the grant. -/
theorem PInv.to (h : PInv w1 b m nn S Sp B0 D ep wr v out F V B) (k : Kept (fun i => i = m ∨ S i) w w1) (hm : m < w.heap.size) : SInv w b m nn S ep wr v out F V B (Sp + (B0 - B)) := by
  obtain ⟨S1, T1, h1, h2, h3, h4, h5, h6, h7, h8, h9⟩ := h
  exact ⟨S1, T1, D, h1, fun i hi => (h2 i hi).imp id (fun h => Nat.le_trans k.size h), h3, h4, h5, owns_base h6 k.size, h7, k.trans h8 (fun _ _ h => h), hm⟩
theorem SInv.drewN (h : SInv w b m nn S ep wr v out F V B Sp) (q : Nat) : SInv w b m nn S ep (wr.drewN q) v out F V B Sp := by
  obtain ⟨S1, T1, D1, h1, h2, h3, h4, h5, h6, h7, h8, h9⟩ := h
  exact ⟨S1, T1, D1, h1, h2, h3, h4, h5, h6, h7, h8.drewN q, h9⟩
theorem SInv.head (h : SInv w b m nn S ep wr v out F V B Sp) : Calls Try.prog 21 #[.pointer (some ⟨b, 0, none⟩)] wr fun e w' => e = .returned (.tuple #[.int .i64 (hdI F V), .int .i64 (hdC F V), .bool (hdB F V)]) ∧ ∃ q, w' = wr.drewN q := by
  obtain ⟨S1, T1, D1, h1, _⟩ := h
  exact head_any h1
theorem SInv.drop (h : SInv w b m nn S ep wr v out F V B Sp) : Calls Try.prog 34 #[.pointer (some ⟨m, 0, none⟩)] wr fun e w' => e = .returned (.int .u64 B) ∧ Hid (SInv w b m nn S ep w' v out F V 0 Sp) := by
  obtain ⟨S1, T1, D1, h1, h2, h3, h4, h5, h6, h7, h8, h9⟩ := h
  obtain ⟨D', hD, hN, hG⟩ := drop_eq h5
  refine (drop_any m _ _ _ _ D' wr h4 h5 hD hG).mono ?_
  rintro e w' ⟨he, hm, hg⟩
  have k : Kept (fun i => i = m) wr w' := Kept.of_grown hg (fun i e => by injection e)
  exact ⟨he, Lib.hid ⟨S1, T1, D', h1.kept k (fun i hi e => h3 (by rw [← show i = m from e]; exact hi)), h2, h3, hm, hN, owns_kept h6 k (fun g hg e => by have := (h6.lt g hg).1; have : g = m := e; omega), h7, h8.trans k (fun i _ e => .inl e), h9⟩⟩
end
/-- What Step hands back and leaves. -/
def StepPost (w : World) (b m nn : Nat) (S : Nat → Prop) (om : Int → Int) (F V : List Int) (B x ep : Int) (e : Ending) (w' : World) : Prop :=
  ∃ a c, e = .returned (.slice a (stp om F V B x).1.length c) ∧ Hid (SInv w b m nn S ep w' (.slice a (stp om F V B x).1.length c) (stp om F V B x).1 (stp om F V B x).2.1 (stp om F V B x).2.2.1 (balOf (stp om F V B x)) (gr B x - (stp om F V B x).2.2.2))
section
variable {w : World} {b m nn : Nat} {S : Nat → Prop} {B Sp T D x ep : Int} {F V L : List Int} {wa : Option Addr} {cap : Nat}
theorem step_nil_l (ep x : Int) (p : Value) (v : Value) (w : World) : Calls Try.prog 14 #[.int .i64 ep, .pointer none, p, .int .u64 x, v] w fun e w' => e = .returned (.slice none 0 0) ∧ w = w' := by
  go_enter Try.func14, Try.ntmps14
  go_wp2
  go_ret
  exact ⟨rfl, rfl⟩
theorem step_nil_m (ep x : Int) (b : Nat) (v : Value) (w : World) : Calls Try.prog 14 #[.int .i64 ep, .pointer (some ⟨b, 0, none⟩), .pointer none, .int .u64 x, v] w fun e w' => e = .returned (.slice none 0 0) ∧ w = w' := by
  go_enter Try.func14, Try.ntmps14
  go_wp2
  go_ret
  exact ⟨rfl, rfl⟩
set_option maxHeartbeats 1600000 in
theorem step_any (hl : Ln w b S nn F V) (hm : MetAt w m B Sp T D) (hF : Fits B Sp T D) (hn : ¬ S m) (hu : UAt w (fun i => i = m ∨ S i) wa L) (hL : L.length ≤ 9223372036854775807) (hA : Amts L) (hx : 0 ≤ x) (he0 : 0 ≤ ep) (he1 : ep ≤ 1099511627776) :
    Calls Try.prog 14 #[.int .i64 ep, .pointer (some ⟨b, 0, none⟩), .pointer (some ⟨m, 0, none⟩), .int .u64 x, .slice wa L.length cap] w (StepPost w b m nn S (wOf L) F V B x (ep + 1)) := by
  obtain ⟨p, hp, hG, hN, hb, _⟩ := grant_eq hF hx
  have hgr : B + p = gr B x := by rw [gr, hp]
  have hmf : ∀ (fn : Fn) (first cap : Array Value) (w : World), (Instr.makeFunc fn first cap).run Try.prog w = .ok (.func fn first cap) w := fun _ _ _ _ => rfl
  have HG := Lib.hid ((grant_any m B Sp T D x p w hm hF hp hG hN hb).mono (R' := fun e w' => e = .returned (.int .u64 (B + p)) ∧ Hid (Kept (fun i => i = m) w w' ∧ Calls Try.prog 32 #[.int .i64 (ep + 1), .pointer (some ⟨b, 0, none⟩), .slice wa L.length cap, .func (.func 33) #[.pointer (some ⟨m, 0, none⟩)] #[]] w' (ProcPost w' b m nn S 0 (B + p) D (ep + 1) (wOf L) F V)))
    (fun e w' ⟨he, hm', hg⟩ => ⟨he, Lib.hid (by
      have k : Kept (fun i => i = m) w w' := Kept.of_grown hg (fun i e => by injection e)
      exact ⟨k, process_any (hl.kept k (fun i hi e => hn (by rw [← show i = m from e]; exact hi))) hm' hN hn (hu.kept k (fun i _ e => .inl e)) hL hA⟩)⟩))
  have hmlt := Blk.lt hm
  rw [hgr] at HG
  have HM := Lib.hid hmlt
  clear hl hm hF hn hu hA hL hmlt hp hG hN hb hgr hx
  go_enter Try.func14, Try.ntmps14
  go_wp2_with fail
  refine HG.out.mono ?_
  rintro e w1 ⟨rfl, HP⟩
  clear HG
  go_wp2_with fail
  refine HP.out.2.mono ?_
  rintro e w2 ⟨a, c, he, H2⟩
  change e = .returned (.slice a (stp (wOf L) F V B x).1.length c) at he
  subst he
  have H3 : Hid (SInv w b m nn S (ep + 1) w2 (.slice a (stp (wOf L) F V B x).1.length c) (stp (wOf L) F V B x).1 (stp (wOf L) F V B x).2.1 (stp (wOf L) F V B x).2.2.1 (stp (wOf L) F V B x).2.2.2 (gr B x - (stp (wOf L) F V B x).2.2.2)) := Lib.hid (by
    have := H2.out.to (w := w) (HP.out.1.more (fun i _ e => .inl e)) HM.out
    rw [Int.zero_add] at this
    exact this)
  clear H2 HP hmf
  have HR : Hid (∀ w', SInv w b m nn S (ep + 1) w' (.slice a (stp (wOf L) F V B x).1.length c) (stp (wOf L) F V B x).1 (stp (wOf L) F V B x).2.1 (stp (wOf L) F V B x).2.2.1 (balOf (stp (wOf L) F V B x)) (gr B x - (stp (wOf L) F V B x).2.2.2) → StepPost w b m nn S (wOf L) F V B x (ep + 1) (.returned (.slice a (stp (wOf L) F V B x).1.length c)) w') := Lib.hid (fun w' h => ⟨a, c, rfl, Lib.hid h⟩)
  have hbl : balOf (stp (wOf L) F V B x) = if hdB (stp (wOf L) F V B x).2.1 (stp (wOf L) F V B x).2.2.1 = true then (stp (wOf L) F V B x).2.2.2 else 0 := rfl
  generalize balOf (stp (wOf L) F V B x) = bl at *
  generalize StepPost w b m nn S (wOf L) F V B x (ep + 1) = Q at *
  generalize gr B x - (stp (wOf L) F V B x).2.2.2 = sp at *
  generalize (stp (wOf L) F V B x).1.length = nl at *
  generalize stp (wOf L) F V B x = r at *
  obtain ⟨out, F2, V2, B2⟩ := r
  dsimp only at *
  have HB := Lib.hid hbl
  clear hbl
  go_wp2_with fail
  refine H3.out.head.mono ?_
  rintro e w3 ⟨rfl, q, rfl⟩
  have H4 := Lib.hid (H3.out.drewN q)
  clear H3
  generalize w2.drewN q = w3 at *
  cases hb : hdB F2 V2
  · have HD := Lib.hid H4.out.drop
    rw [hb] at HB
    clear hb H4
    go_wp2_with fail
    refine HD.out.mono ?_
    rintro e w4 ⟨rfl, H5⟩
    have H6 := Lib.hid (HR.out w4 (by rw [HB.out]; exact H5.out))
    clear HR HD H5 HB
    go_wp2
    exact H6.out
  · rw [hb] at HB
    have H6 := Lib.hid (HR.out w3 (by rw [HB.out]; exact H4.out))
    clear HR HB hb H4
    go_wp2
    exact H6.out
end
end Go.Proofs.Ytkeclanbebiogaa
