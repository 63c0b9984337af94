/- The reference's Next and Load. -/
import Derived.Test.YtinndmglacfofaaRef
import Derived.Test.YtinndmglacfofaaDueB
import Derived.Test.YtinndmglacfofaaNil
namespace Go.Proofs.Ytinndmglacfofaa
open Go Go.RowKit Go.Deep
set_option linter.unusedVariables false
set_option linter.unusedSimpArgs false

theorem eps_get {L : List Ent} {k : Nat} {e : Ent} (h : L[k]? = some e) : (epsOf L)[k]? = some (.int .i64 e.1) := by simp [epsOf, h]
theorem its_get {L : List Ent} {k : Nat} {e : Ent} (h : L[k]? = some e) : (itsOf L)[k]? = some (.int .i64 e.2) := by simp [itsOf, h]

set_option maxHeartbeats 800000 in
theorem ref_load (r n j : Nat) (S : Nat → Prop) (L : List Ent) (w : World) (h : Ref w r S L) (hn : 1 ≤ n) (hn2 : n ≤ 4096) (hok : OkE L) (hL : L.length ≤ 100000) :
    Calls Try.prog 16 #[.pointer (some ⟨r, 0, none⟩), .int .i64 n, .int .i64 j] w fun e w' => e = .returned (.int .i64 (bk n L j).length) ∧ w = w' := by
  obtain ⟨se, si, hp, -⟩ := h
  obtain ⟨ae, ce, rfl, hce, hce2⟩ := owns_int hp.eps
  obtain ⟨x0, x1⟩ := hp.cells
  have HE := Lib.hid hp.eps
  obtain ⟨q, hq⟩ : ∃ q, L.length = q := ⟨_, rfl⟩
  have HQ := Lib.hid hq
  have HOK := Lib.hid hok
  rw [hq] at x0 hL
  clear hp hq hok x1
  have hn0 : ¬ (n : Int) = 0 := by omega
  have hn1 : ¬ (n : Int) = -1 := by omega
  go_enter Try.func16, Try.ntmps16
  go_wp2
  go_loopw [7, 8] (fun s7 s8 wr => ∃ k c : Nat, k ≤ q ∧ c ≤ k ∧ s8 = .int .i64 k ∧ s7 = .int .i64 c ∧ Hid (c = (bk n (L.take k) j).length) ∧ w = wr) (fun _ s8 _ => q - (intOf s8).toNat)
  case atStart => exact ⟨0, 0, by omega, by omega, rfl, rfl, Lib.hid (by simp [bk]), rfl⟩
  case round =>
    obtain ⟨k, c, hk, hck, rfl, rfl, HC, rfl⟩ := hrel
    by_cases hlt : k < q
    · obtain ⟨e, he⟩ : ∃ e, L[k]? = some e := ⟨_, List.getElem?_eq_getElem (by have := HQ.out; omega)⟩
      obtain ⟨g, rfl, e0⟩ := owns_cell HE.out (eps_get he)
      have hk1 : ¬ (k : Int) < 0 := by omega
      have hk2 : ¬ (q : Int) ≤ (k : Int) := by omega
      have hk3 : (k : Int) < (q : Int) := by omega
      have h0 := (HOK.out e (List.mem_of_getElem? he)).1
      have h1 := (HOK.out e (List.mem_of_getElem? he)).2
      have hm : Int.tmod e.1 n = e.1 % (n : Int) := Int.tmod_eq_emod_of_nonneg h0
      have hsn := ent_snoc he
      have HSN := Lib.hid hsn
      have hm2 := Int.emod_nonneg e.1 (b := (n : Int)) (by omega)
      have hm3 := Int.emod_lt_of_pos e.1 (b := (n : Int)) (by omega)
      clear he hsn
      by_cases hb : e.1 % (n : Int) = (j : Int)
      · have HZ : Hid (c + 1 = (bk n (L.take (k + 1)) j).length) := Lib.hid (by rw [HSN.out, bk_append, List.length_append, ← HC.out]; simp [bk, hb])
        go_wp2
        go_roundw
        case rel => exact ⟨k + 1, c + 1, by omega, by omega, by go_num, by go_num, HZ, trivial⟩
        case measure => simp [intOf]; omega
      · have HZ : Hid (c = (bk n (L.take (k + 1)) j).length) := Lib.hid (by rw [HSN.out, bk_append, List.length_append, ← HC.out]; simp [bk, hb])
        go_wp2
        go_roundw
        case rel => exact ⟨k + 1, c, by omega, by omega, by go_num, rfl, HZ, trivial⟩
        case measure => simp [intOf]; omega
    · obtain rfl : k = q := by omega
      clear hlt
      have hlt : ¬ k < k := by omega
      go_wp2
      go_ret
      have := HC.out
      rw [List.take_of_length_le (by rw [HQ.out]; exact Nat.le_refl _)] at this
      exact ⟨by rw [← this]; rfl, rfl⟩

set_option maxHeartbeats 800000 in
theorem ref_next (r : Nat) (S : Nat → Prop) (L : List Ent) (w : World) (h : Ref w r S L) (hL : L.length ≤ 100000) :
    Calls Try.prog 14 #[.pointer (some ⟨r, 0, none⟩)] w fun e w' => e = .returned (.tuple #[.int .i64 (bestF L).2, .bool (bestF L).1]) ∧ w = w' := by
  obtain ⟨se, si, hp, -⟩ := h
  obtain ⟨ae, ce, rfl, hce, hce2⟩ := owns_int hp.eps
  obtain ⟨x0, x1⟩ := hp.cells
  have HE := Lib.hid hp.eps
  obtain ⟨q, hq⟩ : ∃ q, L.length = q := ⟨_, rfl⟩
  have HQ := Lib.hid hq
  rw [hq] at x0 hL
  clear hp hq x1
  by_cases hq0 : q = 0
  · subst hq0
    obtain rfl := List.eq_nil_of_length_eq_zero HQ.out
    go_enter Try.func14, Try.ntmps14
    go_wp2
    go_ret2
    exact ⟨rfl, rfl⟩
  · obtain ⟨f, hf⟩ : ∃ f, L[0]? = some f := ⟨_, List.getElem?_eq_getElem (by have := HQ.out; omega)⟩
    obtain ⟨g, rfl, f0⟩ := owns_cell HE.out (eps_get hf)
    have HF : Hid (f ∈ L) := Lib.hid (List.mem_of_getElem? hf)
    have hz1 : ¬ (q : Int) = 0 := by omega
    have hz2 : ¬ (q : Int) ≤ 0 := by omega
    have hz3 : (0 : Int) < (q : Int) := by omega
    clear hf
    go_enter Try.func14, Try.ntmps14
    go_wp2
    go_loopw [4, 5] (fun s4 s5 wr => ∃ (k : Nat) (m : Int), k ≤ q ∧ s5 = .int .i64 k ∧ s4 = .int .i64 m ∧ Hid ((∃ e ∈ L, e.1 = m) ∧ ∀ e ∈ L.take k, m ≤ e.1) ∧ w = wr) (fun _ s5 _ => q - (intOf s5).toNat)
    case atStart => exact ⟨0, f.1, by omega, rfl, rfl, Lib.hid ⟨⟨f, HF.out, rfl⟩, by simp⟩, rfl⟩
    case round =>
      obtain ⟨k, m, hk, rfl, rfl, HC, rfl⟩ := hrel
      by_cases hlt : k < q
      · obtain ⟨e, he⟩ : ∃ e, L[k]? = some e := ⟨_, List.getElem?_eq_getElem (by have := HQ.out; omega)⟩
        obtain ⟨g', hg', e0⟩ := owns_cell HE.out (eps_get he)
        obtain rfl : g = g' := by injection hg' with hg'; injection hg'
        have hk1 : ¬ (k : Int) < 0 := by omega
        have hk2 : ¬ (q : Int) ≤ (k : Int) := by omega
        have hk3 : (k : Int) < (q : Int) := by omega
        obtain ⟨p, hpe⟩ : ∃ p, min m e.1 = p := ⟨_, rfl⟩
        have HZ : Hid ((∃ e ∈ L, e.1 = p) ∧ ∀ e ∈ L.take (k + 1), p ≤ e.1) := Lib.hid (by
          obtain ⟨⟨y, hy, hy2⟩, h2⟩ := HC.out
          rw [ent_snoc he]
          have hmem := List.mem_of_getElem? he
          subst hpe
          by_cases hc : e.1 < m
          · rw [show min m e.1 = e.1 by omega]
            refine ⟨⟨e, hmem, rfl⟩, fun x hx => ?_⟩
            rcases List.mem_append.1 hx with hx | hx
            · have := h2 x hx; omega
            · rw [List.mem_singleton.1 hx]; exact Int.le_refl _
          · rw [show min m e.1 = m by omega]
            refine ⟨⟨y, hy, hy2⟩, fun x hx => ?_⟩
            rcases List.mem_append.1 hx with hx | hx
            · exact h2 x hx
            · rw [List.mem_singleton.1 hx]; omega)
        clear he hg'
        go_wp2
        go_roundw
        case rel => exact ⟨k + 1, p, by omega, by go_num, rfl, HZ, trivial⟩
        case measure => simp [intOf]; omega
      · obtain rfl : k = q := by omega
        clear hlt
        have hlt : ¬ k < k := by omega
        have hb : bestF L = (true, m) := by
          obtain ⟨h1, h2⟩ := HC.out
          rw [List.take_of_length_le (by rw [HQ.out]; exact Nat.le_refl _)] at h2
          exact best_unique (bestF_is L) ⟨(fun h => by cases h), fun _ => ⟨h1, h2⟩⟩ (fun _ => Iff.rfl)
        have HB := Lib.hid hb
        clear hb
        go_wp2
        go_ret2
        exact ⟨by rw [HB.out]; rfl, rfl⟩
end Go.Proofs.Ytinndmglacfofaa
