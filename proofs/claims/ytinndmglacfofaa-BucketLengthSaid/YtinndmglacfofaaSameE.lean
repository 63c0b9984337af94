/- slices.Equal, of two lists of entries that are the same. -/
import Derived.Test.YtinndmglacfofaaOrd
namespace Go.Proofs.Ytinndmglacfofaa
open Go Go.RowKit Go.Deep
set_option linter.unusedVariables false
set_option linter.unusedSimpArgs false

/-- A slice of entries reads as t. -/
def EntsAt (w : World) (a : Option Addr) (t : List Ent) : Prop := 0 < t.length → ∃ g, a = some ⟨g, 0, none⟩ ∧ g < w.heap.size ∧ ∀ i v, t[i]? = some v → w.rangeAt g (i * 2) (rowE v)
theorem Fresh.ents {w0 w : World} {a : Option Addr} {cap : Nat} {t : List Ent} (h : Fresh w0 w a cap t) : EntsAt w a t := fun h0 => by
  obtain ⟨g, e, hg, hr⟩ := h h0
  exact ⟨g, e, hr.lt, fun i v hv => hr.at hv⟩
theorem EntsAt.below {w w' : World} {a : Option Addr} {t : List Ent} (h : EntsAt w a t) (k : Below w.heap.size w w') : EntsAt w' a t := fun h0 => by
  obtain ⟨g, e, hg, hr⟩ := h h0
  exact ⟨g, e, Nat.lt_of_lt_of_le hg k.size, fun i v hv => World.rangeAt.same (hr i v hv) (k.block g hg)⟩
theorem ring_any {w : World} {b n : Nat} {L : List Ent} {S : Nat → Prop} (h : Ring w b S n L) (hL : L.length ≤ 10000) :
    Calls Try.prog 18 #[.pointer (some ⟨b, 0, none⟩)] w fun e w' => ∃ t a cp, e = .returned (.slice a t.length cp) ∧ t.length = L.length ∧ Hid (Srt t ∧ Stab L t) ∧ Hid (EntsAt w' a t) ∧ Hid (Below w.heap.size w w') := by
  refine (all_any b n S L w h hL).mono ?_
  rintro e w' ⟨v, t, rfl, s1, s2, ho, hb⟩
  rw [s2.len] at ho
  obtain ⟨a, cp, rfl, _, _⟩ := owns_slice (owns_base ho (Nat.zero_le _))
  refine ⟨t, a, cp, rfl, s2.len.symm, Lib.hid ⟨s1, s2⟩, Lib.hid (fun h0 => ?_), Lib.hid hb⟩
  rcases ho.2 with ⟨e1, e2⟩ | ⟨g, cp', cur, e1, e2, _⟩
  · omega
  · have e3 := e1
    injection e3 with e3 _ e4
    subst e3 e4
    exact ⟨g, rfl, (row_of_owns ho).lt, fun i v hv => (row_of_owns ho).at hv⟩

set_option maxHeartbeats 800000 in
theorem equal_ents (a b : Option Addr) (n cp cq : Nat) (t : List Ent) (w : World) (h : EntsAt w a t) (h2 : EntsAt w b t) (hl : t.length ≤ 100000) (hn : t.length = n) :
    Calls Try.prog 22 #[.slice a n cp, .slice b n cq] w fun e w' => e = .returned (.bool true) ∧ ∃ m, w' = w.drewN m := by
  have HL := Lib.hid h
  have HM := Lib.hid h2
  rw [hn] at hl
  have HN := Lib.hid hn
  clear h h2 hn
  go_enter Try.func22, Try.ntmps22
  go_wp2
  go_loopw [13] (fun s13 wr => ∃ (k m : Nat), k ≤ n ∧ s13 = .int .i64 k ∧ wr = w.drewN m) (fun s13 _ => n - (intOf s13).toNat)
  case atStart => exact ⟨0, 0, by omega, rfl, rfl⟩
  case round =>
    obtain ⟨k, m, hk, rfl, rfl⟩ := hrel
    by_cases hlt : k < n
    · obtain ⟨v, hv⟩ : ∃ v, t[k]? = some v := ⟨_, List.getElem?_eq_getElem (by have := HN.out; omega)⟩
      obtain ⟨b1, rfl, _, r1⟩ := HL.out (by have := HN.out; omega)
      obtain ⟨b2, rfl, _, r2⟩ := HM.out (by have := HN.out; omega)
      have R1 := Lib.hid (r1 k v hv)
      have R2 := Lib.hid (r2 k v hv)
      have hk1 : ¬ (k : Int) < 0 := by omega
      have hk2 : ¬ (n : Int) ≤ (k : Int) := by omega
      have hk3 : (k : Int) < (n : Int) := by omega
      clear hv r1 r2
      go_wp2
      refine wp_region_class (fun w' => ∃ q, w' = w.drewN q) (by kernel_rfl) (by kernel_rfl) ⟨m + 1, rfl⟩ ?_
      iterate 3 (go_big_quiet_step ((intros; rfl)))
      refine q_load_ent 46 _ b1 (k * 2) v _ rfl rfl rfl (fun w h => by obtain ⟨q, rfl⟩ := h; exact R1.out) Try.underlying46 rfl infoE ?_
      simp only [Act.put, List.setIfInBounds_toArray, List.set_cons_zero, List.set_cons_succ]
      iterate 3 (go_big_quiet_step ((intros; rfl)))
      refine q_load_ent 46 _ b2 (k * 2) v _ rfl rfl rfl (fun w h => by obtain ⟨q, rfl⟩ := h; exact R2.out) Try.underlying46 rfl infoE ?_
      simp only [Act.put, List.setIfInBounds_toArray, List.set_cons_zero, List.set_cons_succ]
      refine q_val (.bool false) rfl (fun w => exec_nee (p := v) (q := v) rfl rfl (by simp)) ?_
      simp only [Act.put, List.setIfInBounds_toArray, List.set_cons_zero, List.set_cons_succ]
      refine wpQuiet_nil ?_
      intro _ hw'
      obtain ⟨q, hw''⟩ := hw'
      subst hw''
      go_wp2
      go_roundw
      case rel => exact ⟨k + 1, q, by omega, by go_num, rfl⟩
      case measure => simp [intOf]; omega
    · obtain rfl : k = n := by omega
      clear hlt
      have hlt : ¬ k < k := by omega
      go_wp2
      go_ret
      exact ⟨rfl, m, rfl⟩
end Go.Proofs.Ytinndmglacfofaa
