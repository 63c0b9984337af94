/- How a law on rounds begins. -/
import Derived.Test.YtkeclanbebiogaaPush
import Derived.Test.YtkeclanbebiogaaLive
namespace Go.Proofs.Ytkeclanbebiogaa
open Go Go.RowKit
set_option linter.unusedVariables false
set_option linter.unusedSimpArgs false
set_option maxRecDepth 100000

/-- New lanes, a new meter, the reference's new lanes. -/
theorem law_new {w0 w1 w2 : World} {nn b : Nat} {S : Nat → Prop} (hl : Ln w1 b S nn [] []) (hS : ∀ i, S i → w0.heap.size ≤ i) (hb : Below w0.heap.size w0 w1) (hm : MetAt w2 w1.heap.size 0 0 0 0) (hk : Below w1.heap.size w1 w2) (hz : w2.heap.size = w1.heap.size + 1) (hn : nn ≤ 4096) :
    Law w0 (w2.alloc (.cells #[.slice none 0 0, .slice none 0 0, .int .i64 nn] 33)) b w1.heap.size w2.heap.size nn S (fun i => i = w1.heap.size) [] [] [] [] 0 0 := by
  have hp := pr_new hl hS hb hm hk
  refine ⟨hp.alloc _, refAt_new w2 _ nn hn, fun e => ?_, fun e => ?_, rfl, ?_, fun i hi => ?_, fun i hi e => ?_⟩
  · exact Nat.lt_irrefl _ (hp.1.lt _ e)
  · have : w2.heap.size = w1.heap.size := e
    omega
  · exact hp.2.2.2.2.2.size
  · have : i = w1.heap.size := hi
    have := hb.size
    simp
    omega
  · have : i = w1.heap.size := e
    have := hl.lt i hi
    omega
theorem gr_room {B x : Int} (h : B + x ≤ 18446744073709551615) : gr B x = B + x := by
  unfold gr
  rw [if_neg (by omega)]
theorem stp_spent (om : Int → Int) (F V : List Int) (B x : Int) : gr B x - (stp om F V B x).2.2.2 = sumW om (stp om F V B x).1 := by
  have := asg_sum om F V (gr B x)
  unfold stp
  omega
section
variable {w0 w w' : World} {b m d nn : Nat} {S X : Nat → Prop} {F V RF RV L : List Int} {B Sp x ep : Int} {wa : Option Addr} {cap : Nat}
/-- A boundary, in a law. -/
def LawStep (w0 w : World) (b m d nn : Nat) (S X : Nat → Prop) (RF RV : List Int) (ep : Int) (r : List (Int × Int) × List Int × List Int × Int) (sp : Int) (e : Ending) (w' : World) : Prop :=
  ∃ a c S', e = .returned (.slice a r.1.length c) ∧ Hid (Law w0 w' b m d nn S' X r.2.1 r.2.2.1 RF RV (balOf r) sp) ∧ Hid (∀ i, S' i → S i ∨ w.heap.size ≤ i) ∧ Hid (AAt w' (fun i => i < w.heap.size ∨ S' i) a ep r.1) ∧ Hid (Kept (fun i => i = m ∨ S i) w w')
theorem Law.step (h : Law w0 w b m d nn S X F V RF RV B Sp) (hu : UAt w (fun i => w0.heap.size ≤ i) wa L) (hL : L.length ≤ 9223372036854775807) (hA : Amts L) (hx : 0 ≤ x) (he0 : 0 ≤ ep) (he1 : ep ≤ 1099511627776) :
    Calls Try.prog 14 #[.int .i64 ep, .pointer (some ⟨b, 0, none⟩), .pointer (some ⟨m, 0, none⟩), .int .u64 x, .slice wa L.length cap] w (LawStep w0 w b m d nn S X RF RV (ep + 1) (stp (wOf L) F V B x) (sumW (wOf L) (stp (wOf L) F V B x).1)) := by
  refine (h.1.step hu hL hA hx he0 he1).mono ?_
  rintro e w' ⟨a, c, S', he, h1, h2, h3, h4⟩
  exact ⟨a, c, S', he, Lib.hid (by have := h.turned h1.out h4.out h2.out; rwa [stp_spent] at this), h2, h3, h4⟩
end
theorem gr_nonneg {B x : Int} (h : 0 ≤ B) (hB : B ≤ 18446744073709551615) (hx : 0 ≤ x) : 0 ≤ gr B x := by
  unfold gr
  split <;> omega
/-- What a law on rounds asks of the numbers behind a boundary. -/
theorem stp_facts {om : Int → Int} (ho : ∀ i, 0 ≤ om i) (F V : List Int) {B x : Int} (hB : 0 ≤ B) (hx : 0 ≤ x) (h : B + x ≤ 18446744073709551615) :
    0 ≤ sumW om (stp om F V B x).1 ∧ sumW om (stp om F V B x).1 ≤ B + x ∧ 0 ≤ balOf (stp om F V B x) ∧ balOf (stp om F V B x) ≤ B + x ∧
    (hdB (stp om F V B x).2.1 (stp om F V B x).2.2.1 = true → balOf (stp om F V B x) < om (hdI (stp om F V B x).2.1 (stp om F V B x).2.2.1)) ∧ (hdB (stp om F V B x).2.1 (stp om F V B x).2.2.1 = false → balOf (stp om F V B x) = 0) := by
  have h1 := stp_spent om F V B x
  have h2 := gr_room h
  have h3 := sumW_nonneg ho (stp om F V B x).1
  have h4 := asg_fits om F V (gr B x) (by omega)
  have h5 := asg_stop om F V (gr B x)
  change 0 ≤ (stp om F V B x).2.2.2 at h4
  change hdB (stp om F V B x).2.1 (stp om F V B x).2.2.1 = true → (stp om F V B x).2.2.2 < om (hdI (stp om F V B x).2.1 (stp om F V B x).2.2.1) at h5
  generalize stp om F V B x = r at *
  refine ⟨h3, by omega, ?_, ?_, ?_, ?_⟩
  · unfold balOf; split <;> omega
  · unfold balOf; split <;> omega
  · intro hb; rw [balOf, if_pos hb]; exact h5 hb
  · intro hb; rw [balOf, if_neg (by rw [hb]; simp)]
theorem sumW_take_succ (om : Int → Int) {l : List (Int × Int)} {k : Nat} {p : Int × Int} (h : l[k]? = some p) : sumW om (l.take (k + 1)) = sumW om (l.take k) + om p.1 := by
  have hk := (List.getElem?_eq_some_iff.1 h).1
  rw [List.take_succ_eq_append_getElem hk, sumW_append]
  have : l[k] = p := (List.getElem?_eq_some_iff.1 h).2
  rw [this]
  simp [sumW]
theorem sumW_take_le {om : Int → Int} (ho : ∀ i, 0 ≤ om i) (l : List (Int × Int)) (k : Nat) : sumW om (l.take k) ≤ sumW om l := by
  have h := sumW_append om (l.take k) (l.drop k)
  rw [List.take_append_drop] at h
  have := sumW_nonneg ho (l.drop k)
  omega
end Go.Proofs.Ytkeclanbebiogaa
