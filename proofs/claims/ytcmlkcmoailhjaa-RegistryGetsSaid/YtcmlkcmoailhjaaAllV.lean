/- All: a copy. -/
import Derived.Test.YtcmlkcmoailhjaaSetW
import Derived.Lib.SliceRun
namespace Go.Proofs.Ytcmlkcmoailhjaa
open Go Go.RowKit Go.Deep
set_option linter.unusedVariables false
set_option linter.unusedSimpArgs false

theorem owns_base {w : World} {base : Nat} {e : TypeId} {k : Nat} {v : Value} {n : Nat} {xs : List Value} (h : w.ownsRow base e k v n xs) {B : Nat} (hB : B ≤ base) : w.ownsRow B e k v n xs := by
  refine ⟨h.1, h.2.imp id ?_⟩
  rintro ⟨g, cp, cur, rfl, h1, h2⟩
  exact ⟨g, cp, cur, rfl, by omega, h2⟩
theorem owns_fresh {w : World} {base : Nat} {S : Nat → Prop} {v : Value} {l : List Val} (h : w.ownsRow base 29 7 v l.length (flat l)) (hS : ∀ i, base ≤ i → ¬ S i) : ∃ a cp, v = .slice a l.length cp ∧ l.length ≤ cp ∧ cp ≤ maxLen ∧ Lst w S a l := by
  obtain ⟨a, cp, rfl, q1, q2⟩ := owns_slice (owns_base h (Nat.zero_le _))
  exact ⟨a, cp, rfl, q1, q2, owns_lst (owns_base h (Nat.zero_le _)) (fun i hi => hS i (h.lt i hi).1)⟩
theorem lst_src {w w' : World} {S : Nat → Prop} {a : Option Addr} {l : List Val} (h : Lst w S a l) (hb : Below w.heap.size w w') : 0 < l.length → ∃ ad, a = some ad ∧ ∀ j u, (flat l)[j]? = some u → w'.cell? (ad.add j) = some u := fun h0 => (h.below hb).flat h0

theorem clone_any (S : Nat → Prop) (a : Option Addr) (cp : Nat) (l : List Val) (w : World) (h : Lst w S a l) (hl : l.length ≤ 4096) :
    Calls Try.prog 29 #[.slice a l.length cp] w fun e w' => ∃ v, e = .returned v ∧ w'.ownsRow w.heap.size 29 7 v l.length (flat l) ∧ Below w.heap.size w w' := by
  have HL := Lib.hid h
  by_cases hn : a = none
  · subst hn
    have h0 : l.length = 0 := by
      rcases Nat.eq_zero_or_pos l.length with h0 | h0
      · exact h0
      · obtain ⟨b, off, h1, _⟩ := h h0
        cases h1
    obtain rfl := List.eq_nil_of_length_eq_zero h0
    clear h HL
    have heq := fun (w : World) (a : Option Addr) (n c : Nat) => Lib.run_eql_slice_nil (P := Try.prog) w 26 29 a n c 0 0 Try.underlying26
    go_enter Try.func29, Try.ntmps29
    go_wp2
    go_ret
    exact ⟨_, rfl, World.ownsRow_nil _ _ _ _, Below.refl _ _⟩
  · obtain ⟨ad, rfl⟩ := Option.ne_none_iff_exists'.1 hn
    obtain ⟨i, hi, hz, hs7, hby⟩ := val_app
    have hlen := flat_len l
    have HLEN := Lib.hid hlen
    clear h hn hlen
    have heq := fun (w : World) (a : Option Addr) (n c : Nat) => Lib.run_eql_slice_nil (P := Try.prog) w 26 29 a n c 0 0 Try.underlying26
    go_enter Try.func29, Try.ntmps29
    go_wp2_with (at_builtin; refine wpList_append_src _ rfl (.tmp 5) (.tmp 6) 26 rfl w.heap.size 29 i _ 7 56 Try.underlying26 hi hz hs7 hby (cellsV_size _) (by omega) (.slice (some ⟨w.heap.size, 0, none⟩) 0 0) 0 [] rfl (owns_empty (Blk.new w _ _) (Nat.le_refl _)) (some ad) l.length cp (flat l) rfl (by rw [HLEN.out]) (fun h0 => lst_src HL.out ((Below.refl _ _).alloc (Nat.le_refl _) _) h0) flat_mem (by unfold maxLen; omega) (by omega) (by simp) ?_; intro v w1 ho hg hv)
    have hZ : w1.ownsRow w.heap.size 29 7 v l.length (flat l) ∧ Below w.heap.size w w1 := by
      refine ⟨by simpa using ho, ?_⟩
      exact below_only ((Below.refl _ _).alloc (Nat.le_refl _) _) (g := w.heap.size) hg (by simp) (Nat.le_refl _)
    have HZ := Lib.hid hZ
    clear ho hg hv hZ hi hz hs7 hby
    go_wp2
    go_ret
    exact ⟨_, rfl, HZ.out⟩
theorem all_nil (w : World) : Calls Try.prog 18 #[.pointer none] w fun e w' => e = .returned (.slice none 0 0) ∧ w = w' := by
  go_enter Try.func18, Try.ntmps18
  go_wp2
  go_ret
  exact ⟨rfl, rfl⟩
theorem all_any (b cap : Nat) (S : Nat → Prop) (l : List Val) (w : World) (h : Reg w b S cap l) :
    Calls Try.prog 18 #[.pointer (some ⟨b, 0, none⟩)] w fun e w' => ∃ v, e = .returned v ∧ w'.ownsRow w.heap.size 29 7 v l.length (flat l) ∧ Below w.heap.size w w' := by
  obtain ⟨m, a, cp, x0, x1, x2, x3, x4, q1, q2, _, hL⟩ := h.cells
  have hl := h.fits
  have H := Lib.hid (clone_any _ a cp l w hL (by omega))
  clear h hL hl x0 x2 x3 x4
  go_enter Try.func18, Try.ntmps18
  go_wp2_with fail
  refine H.out.mono ?_
  rintro e w1 ⟨v, rfl, ho, hb⟩
  have HZ := Lib.hid (And.intro ho hb)
  clear ho hb H
  go_wp2_with fail
  go_ret
  exact ⟨_, rfl, HZ.out⟩
theorem get_any (b cap : Nat) (S : Nat → Prop) (i : Int) (l : List Val) (w : World) (h : Reg w b S cap l) :
    Calls Try.prog 21 #[.pointer (some ⟨b, 0, none⟩), .int .i64 i] w fun e w' => Below w.heap.size w w' ∧ (((i < 0 ∨ l.length ≤ i) ∧ e = .returned (.tuple #[.agg (cellsV val0), .bool false])) ∨ ∃ (k : Nat) (v : Val), i = k ∧ l[k]? = some v ∧ e = .returned (.tuple #[.agg (cellsV v), .bool true])) := by
  obtain ⟨m, a, cp, x0, x1, x2, x3, x4, q1, q2, _, hL⟩ := h.cells
  by_cases ho : i < 0 ∨ (l.length : Int) ≤ i
  · refine (get_no (some ⟨b, 0, none⟩) i w (fun w' hb => ?_)).mono fun e w' ⟨he, hb⟩ => ⟨hb, .inl ⟨ho, he⟩⟩
    exact has_out b l.length cp a i w' ((hb.cell (p := ⟨b, 1, none⟩) (cell_lt x1)).trans x1) ho
  · obtain ⟨k, rfl⟩ : ∃ k : Nat, i = k := ⟨i.toNat, by omega⟩
    have hk : k < l.length := by omega
    obtain ⟨v, hv⟩ : ∃ v, l[k]? = some v := ⟨_, List.getElem?_eq_getElem hk⟩
    obtain ⟨g, off, rfl, hr⟩ := hL.at hv
    exact (get_in b l.length cp k g off v w x1 hk hr).mono fun e w' ⟨he, hb⟩ => ⟨hb, .inr ⟨k, v, rfl, hv, he⟩⟩
end Go.Proofs.Ytcmlkcmoailhjaa
