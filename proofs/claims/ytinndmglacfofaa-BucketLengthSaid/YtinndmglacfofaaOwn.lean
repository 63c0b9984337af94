/- A ring that a law made itself; the entries of a slice of epochs. -/
import Derived.Test.YtinndmglacfofaaLaws
import Derived.Test.YtinndmglacfofaaRd
namespace Go.Proofs.Ytinndmglacfofaa
open Go Go.RowKit Go.Deep
set_option linter.unusedVariables false
set_option linter.unusedSimpArgs false

/-- A ring, made since w0. -/
def Own (w0 w : World) (b n : Nat) (L : List Ent) : Prop := ∃ S, Ring w b S n L ∧ (∀ i, S i → w0.heap.size ≤ i) ∧ Below w0.heap.size w0 w
section
variable {w0 w w' : World} {b n : Nat} {L : List Ent}
theorem Own.below (h : Own w0 w b n L) (k : Below w.heap.size w w') : Own w0 w' b n L := by
  obtain ⟨S, hh, h1, h3⟩ := h
  exact ⟨S, hh.below k, h1, h3.trans (k.mono h3.size)⟩
theorem Own.bel (h : Own w0 w b n L) : Below w0.heap.size w0 w := by
  obtain ⟨S, hh, h1, h3⟩ := h
  exact h3
theorem Own.put (h : Own w0 w b n L) (ep it : Int) (h0 : 0 ≤ ep) (h1 : ep ≤ 1099511627776) (hL : L.length ≤ 100000) :
    Calls Try.prog 19 #[.pointer (some ⟨b, 0, none⟩), .int .i64 ep, .int .i64 it] w fun e w' => e = .returned (.bool true) ∧ Hid (Own w0 w' b n (L ++ [(ep, it)])) := by
  obtain ⟨S, hh, g1, g3⟩ := h
  refine (put_any b n S L ep it w hh h0 h1 hL).mono ?_
  rintro e w' ⟨he, S', hr, hs, hk⟩
  have hsz := g3.size
  exact ⟨he, Lib.hid ⟨S', hr, fun i hi => (hs i hi).elim (g1 i) (fun h => by omega), Kept.below g3 hk g1 hsz⟩⟩
theorem Own.due (h : Own w0 w b n L) (ep : Int) (h0 : 0 ≤ ep) (h1 : ep ≤ 1099511627776) (hL : L.length ≤ 100000) :
    Calls Try.prog 20 #[.pointer (some ⟨b, 0, none⟩), .int .i64 ep] w fun e w' => ∃ a cp, e = .returned (.slice a (goes ep L).length cp) ∧ Hid (IntsAt w' (fun _ => False) a (goes ep L)) ∧ Hid (Own w0 w' b n (stay ep L)) := by
  obtain ⟨S, hh, g1, g3⟩ := h
  refine (due_any b n S L ep w hh h0 h1 hL).mono ?_
  rintro e w' ⟨v, S', he, ho, hr, hs, hk⟩
  have hsz := g3.size
  obtain ⟨a, cp, rfl, _, _, _, hi⟩ := ints_of_owns (S := fun _ => False) ho (fun _ _ h => h)
  exact ⟨a, cp, he, Lib.hid hi, Lib.hid ⟨S', hr, fun i hi => g1 i (hs i hi), Kept.below g3 hk g1 hsz⟩⟩
theorem Own.len (h : Own w0 w b n L) (hL : L.length ≤ 100000) :
    Calls Try.prog 12 #[.pointer (some ⟨b, 0, none⟩)] w fun e w' => e = .returned (.int .i64 L.length) ∧ Hid (Own w0 w' b n L) := by
  obtain ⟨S, hr, g1, g3⟩ := h
  exact (len_any b n S L w hr hL).mono fun e w' ⟨he, hb⟩ => ⟨he, Lib.hid (Own.below ⟨S, hr, g1, g3⟩ hb)⟩
end

theorem u8_wf {x : Int} (h : (Lit.int .u8 x).wf = true) : 0 ≤ x ∧ x ≤ 255 := by
  simp [Lit.wf, IntKind.min, IntKind.max, IntKind.signed, IntKind.bits] at h
  omega
/-- The entries that a slice of epochs makes: item i is number i. -/
def idx (z : List Int) (n : Nat) : List Ent := (List.range n).map fun i => (z.getD i 0, (i : Int))
theorem idx_succ (z : List Int) (n : Nat) : idx z n ++ [(z.getD n 0, (n : Int))] = idx z (n + 1) := by
  rw [idx, idx, List.range_succ, List.map_append]; rfl
theorem idx_len (z : List Int) (n : Nat) : (idx z n).length = n := by simp [idx]
theorem idx_asc (z : List Int) (n : Nat) : (idx z n).Pairwise (fun a b => a.2 < b.2) := by
  rw [idx, List.pairwise_map]
  exact List.Pairwise.imp (fun h => by simpa using h) (List.pairwise_lt_range (n := n))
/-- What is left when all epochs below e were asked for. -/
def left (e : Int) (L : List Ent) : List Ent := L.filter fun x => decide (e ≤ x.1)
theorem left_stay (e : Int) (L : List Ent) : stay e (left e L) = left (e + 1) L := by
  rw [stay, left, left, List.filter_filter]
  congr 1
  funext x
  rw [Bool.eq_iff_iff]
  simp
  omega
theorem left_goes (e : Int) (L : List Ent) : goes e (left e L) = goes e L := by
  rw [goes, goes, left, List.filter_filter]
  congr 2
  funext x
  rw [Bool.eq_iff_iff]
  simp
  omega
theorem left_len (e : Int) (L : List Ent) : (goes e L).length + (left (e + 1) L).length = (left e L).length := by
  rw [← left_goes, ← left_stay]
  generalize left e L = M
  induction M with
  | nil => rfl
  | cons x M ih =>
    unfold goes stay at *
    rw [List.filter_cons, List.filter_cons]
    by_cases h : x.1 = e
    · simp [h] at *; omega
    · simp [h] at *; omega
theorem left_all {L : List Ent} (h : ∀ x ∈ L, 0 ≤ x.1) : left 0 L = L := by
  rw [left, List.filter_eq_self]
  intro x hx
  simpa using h x hx
theorem left_none {L : List Ent} {e : Int} (h : ∀ x ∈ L, x.1 < e) : left e L = [] := by
  rw [left, List.filter_eq_nil_iff]
  intro x hx
  have := h x hx
  simp
  omega
theorem goes_asc (z : List Int) (n : Nat) (e : Int) (j : Nat) (h : j + 1 < (goes e (idx z n)).length) : (goes e (idx z n)).getD j 0 < (goes e (idx z n)).getD (j + 1) 0 := by
  have hp : (goes e (idx z n)).Pairwise (· < ·) := by
    rw [goes, List.pairwise_map]
    exact (idx_asc z n).sublist List.filter_sublist
  rw [List.getD_eq_getElem?_getD, List.getD_eq_getElem?_getD, List.getElem?_eq_getElem h, List.getElem?_eq_getElem (by omega)]
  exact List.pairwise_iff_getElem.1 hp j (j + 1) (by omega) h (by omega)
theorem goes_at (z : List Int) (n : Nat) (e : Int) (j : Nat) (h : j < (goes e (idx z n)).length) : ∃ i : Nat, i < n ∧ (goes e (idx z n)).getD j 0 = (i : Int) ∧ z.getD i 0 = e := by
  rw [List.getD_eq_getElem?_getD, List.getElem?_eq_getElem h]
  have hm := List.getElem_mem h
  rw [Option.getD_some]
  generalize (goes e (idx z n))[j] = v at hm
  rw [goes, List.mem_map] at hm
  obtain ⟨x, hx, rfl⟩ := hm
  rw [List.mem_filter, idx, List.mem_map] at hx
  obtain ⟨⟨i, hi, rfl⟩, he⟩ := hx
  exact ⟨i, by simpa using hi, rfl, by simpa using he⟩
end Go.Proofs.Ytinndmglacfofaa
