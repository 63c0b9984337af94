/- New, number, Load, Put. -/
import Derived.Test.YtinndmglacfofaaRing
import Derived.Laws.MakeOwn
namespace Go.Proofs.Ytinndmglacfofaa
open Go Go.RowKit Go.Deep
set_option linter.unusedVariables false
set_option linter.unusedSimpArgs false

theorem new_none (s : Int) (w : World) (h : s < 1 ∨ 4096 < s) :
    Calls Try.prog 9 #[.int .i64 s] w fun e w' => e = .returned (.pointer none) ∧ w = w' := by
  rcases h with h | h
  · go_enter Try.func9, Try.ntmps9
    go_wp2
    go_ret
    exact ⟨rfl, rfl⟩
  · have h0 : ¬ s < 1 := by omega
    go_enter Try.func9, Try.ntmps9
    go_wp2
    go_ret
    exact ⟨rfl, rfl⟩
theorem run_make_rowN {P : Program} (t e : TypeId) (i : TypeInfo) (z : Value) (ht : P.underlying t = some (.slice e)) (hi : P.info? e = some i) (hz : i.zero = some z)
    (kl kc : IntKind) (n c : Nat) (hnc : n ≤ c) (hbytes : i.bytes * c ≤ 281474976710656) (h63 : c ≤ 9223372036854775807) (w : World) :
    (Instr.makeSlice t (.int kl (n : Int)) (.int kc (c : Int))).run P w = .ok (.slice (some ⟨w.heap.size, 0, none⟩) n c) (w.alloc (.cells (madeCells z.cells (c * i.size)) e)) := by
  have hb : (i.bytes : Int) * (c : Int) ≤ 281474976710656 := by
    have h : ((i.bytes * c : Nat) : Int) ≤ 281474976710656 := by omega
    rwa [Int.natCast_mul] at h
  have hr := run_make (P := P) w t e i z ht hi hz kl kc n c (by omega) (by omega) hb (by omega)
  simp only [Int.toNat_natCast] at hr
  exact hr
theorem made_nils (n : Nat) : madeCells #[.slice none 0 0] n = (List.replicate n (Value.slice none 0 0)).toArray := by
  apply Array.ext
  · simp [madeCells]
  · intro i h1 h2
    simp [madeCells, Nat.mod_one]
theorem slice_info : ∃ i, Try.prog.info? 43 = some i ∧ i.zero = some (.slice none 0 0) ∧ i.size = 1 ∧ i.bytes = 24 := by
  have h : (Try.prog.info? 43).map (fun i => (i.zero, i.size, i.bytes)) = some (some (.slice none 0 0), 1, 24) := by kernel_rfl
  cases hi : Try.prog.info? 43 with
  | none => rw [hi] at h; cases h
  | some i =>
    rw [hi] at h
    simp at h
    exact ⟨i, rfl, h.1, h.2.1, h.2.2⟩
theorem new_raw (n : Nat) (w : World) (h1 : 1 ≤ n) (h2 : n ≤ 4096) :
    Calls Try.prog 9 #[.int .i64 n] w fun e w' => e = .returned (.pointer (some ⟨w.heap.size + 1, 0, none⟩)) ∧ (w.alloc (.cells (List.replicate n (Value.slice none 0 0)).toArray 43)).alloc (.cells #[.slice (some ⟨w.heap.size, 0, none⟩) n n] 57) = w' := by
  obtain ⟨i, hi, hz, hs, hby⟩ := slice_info
  have hmk := fun w => run_make_rowN (P := Try.prog) 55 43 i _ Try.underlying55 hi hz .i64 .i64 n n (Nat.le_refl _) (by rw [hby]; omega) (by omega) w
  rw [hs, Nat.mul_one] at hmk
  have hz' : (Value.slice none 0 0).cells = #[.slice none 0 0] := rfl
  rw [hz', made_nils] at hmk
  have h0 : ¬ (n : Int) < 1 := by omega
  have h3 : ¬ (4096 : Int) < (n : Int) := by omega
  generalize (List.replicate n (Value.slice none 0 0)).toArray = cs at *
  clear hi hz hs hby hz' h1 h2
  go_enter Try.func9, Try.ntmps9
  go_wp2
  go_ret
  exact ⟨rfl, rfl⟩
theorem new_any (n : Nat) (w : World) (h1 : 1 ≤ n) (h2 : n ≤ 4096) :
    Calls Try.prog 9 #[.int .i64 n] w fun e w' => ∃ b S, e = .returned (.pointer (some ⟨b, 0, none⟩)) ∧ Ring w' b S n [] ∧ (∀ i, S i → w.heap.size ≤ i) ∧ Below w.heap.size w w' := by
  refine (new_raw n w h1 h2).mono ?_
  rintro e w' ⟨rfl, rfl⟩
  refine ⟨w.heap.size + 1, fun i => i = w.heap.size + 1 ∨ i = w.heap.size, rfl, ?_, fun i hi => by omega, ((Below.refl _ _).alloc (Nat.le_refl _) _).alloc (by simp) _⟩
  refine ⟨w.heap.size, List.replicate n (.slice none 0 0), ⟨?_, ?_, by simp, h1, h2, fun j s hj => ?_, fun i j s t q _ hs _ hq => ?_, fun e he => by simp at he⟩, fun i => ?_⟩
  · have := Blk.new (w.alloc (.cells (List.replicate n (Value.slice none 0 0)).toArray 43)) 57 #[.slice (some ⟨w.heap.size, 0, none⟩) n n]
    rwa [World.size_alloc] at this
  · exact Blk.alloc (Blk.new w _ _) _
  · obtain ⟨_, rfl⟩ := List.mem_replicate.1 (List.mem_of_getElem? hj)
    exact World.ownsRow_nil _ _ _ _
  · obtain ⟨_, rfl⟩ := List.mem_replicate.1 (List.mem_of_getElem? hs)
    cases hq
  · constructor
    · rintro (h | h)
      · exact .inl h
      · exact .inr (.inl h)
    · rintro (h | h | ⟨s, hs, hq⟩)
      · exact .inl h
      · exact .inr h
      · obtain ⟨_, rfl⟩ := List.mem_replicate.1 hs
        cases hq

theorem number_nil (ep : Int) (w : World) :
    Calls Try.prog 29 #[.pointer none, .int .i64 ep] w fun e w' => e = .returned (.tuple #[.int .i64 0, .bool false]) ∧ w = w' := by
  go_enter Try.func29, Try.ntmps29
  go_wp2
  go_ret2
  exact ⟨rfl, rfl⟩
theorem number_no (p : Option Addr) (ep : Int) (w : World) (h : ep < 0 ∨ 1099511627776 < ep) :
    Calls Try.prog 29 #[.pointer p, .int .i64 ep] w fun e w' => e = .returned (.tuple #[.int .i64 0, .bool false]) ∧ w = w' := by
  cases p with
  | none => exact number_nil ep w
  | some x =>
    by_cases h1 : ep < 0
    · clear h
      go_enter Try.func29, Try.ntmps29
      go_wp2
      go_ret2
      exact ⟨rfl, rfl⟩
    · have h2 : 1099511627776 < ep := by omega
      have h1 : 0 ≤ ep := by omega
      clear h
      go_enter Try.func29, Try.ntmps29
      go_wp2
      go_ret2
      exact ⟨rfl, rfl⟩
theorem number_any (b n j cp : Nat) (a : Option Addr) (ep : Int) (w : World) (hb : w.cell? ⟨b, 0, none⟩ = some (.slice a n cp)) (hn : 1 ≤ n) (hn2 : n ≤ 4096) (h0 : 0 ≤ ep) (h1 : ep ≤ 1099511627776) (hj : ep % (n : Int) = (j : Int)) :
    Calls Try.prog 29 #[.pointer (some ⟨b, 0, none⟩), .int .i64 ep] w fun e w' => e = .returned (.tuple #[.int .i64 j, .bool true]) ∧ w = w' := by
  have h2 : ¬ ep < 0 := by omega
  have h3 : ¬ 1099511627776 < ep := by omega
  have hnz : ((n : Int) == 0) = false := by simp; omega
  have hnz2 : ¬ (n : Int) = 0 := by omega
  have hnz3 : (0 : Int) < (n : Int) := by omega
  go_enter Try.func29, Try.ntmps29
  go_wp2
  go_ret2
  exact ⟨rfl, rfl⟩

theorem load_nil (k : Int) (w : World) : Calls Try.prog 15 #[.pointer none, .int .i64 k] w fun e w' => e = .returned (.int .i64 0) ∧ w = w' := by
  go_enter Try.func15, Try.ntmps15
  go_wp2
  all_goals
    go_ret
    exact ⟨rfl, rfl⟩
theorem load_out (b n : Nat) (S : Nat → Prop) (L : List Ent) (k : Int) (w : World) (h : Ring w b S n L) (hk : k < 0 ∨ (n : Int) ≤ k) :
    Calls Try.prog 15 #[.pointer (some ⟨b, 0, none⟩), .int .i64 k] w fun e w' => e = .returned (.int .i64 0) ∧ w = w' := by
  obtain ⟨B, ss, hp, -⟩ := h
  have x0 := hp.own.cell 0
  have ht := hp.top
  have hp1 := hp.pos
  clear hp
  by_cases h1 : k < 0
  · clear hk
    go_enter Try.func15, Try.ntmps15
    go_wp2
    all_goals
      go_ret
      exact ⟨rfl, rfl⟩
  · have h2 : (n : Int) ≤ k := by omega
    clear hk
    go_enter Try.func15, Try.ntmps15
    go_wp2
    all_goals
      go_ret
      exact ⟨rfl, rfl⟩
theorem load_any (b n j : Nat) (S : Nat → Prop) (L : List Ent) (w : World) (h : Ring w b S n L) (hj : j < n) :
    Calls Try.prog 15 #[.pointer (some ⟨b, 0, none⟩), .int .i64 j] w fun e w' => e = .returned (.int .i64 (bk n L j).length) ∧ w = w' := by
  obtain ⟨B, ss, hp, -⟩ := h
  obtain ⟨s, hs⟩ := hp.get hj
  obtain ⟨x0, x1⟩ := hp.cells hs
  obtain ⟨a, cp, rfl, h1, h2⟩ := owns_slice (hp.row j s hs)
  have ht := hp.top
  have h3 : ¬ (j : Int) < 0 := by omega
  have h4 : ¬ (n : Int) ≤ (j : Int) := by omega
  have h5 : (j : Int) < (n : Int) := by omega
  unfold maxLen at h2
  generalize (bk n L j).length = q at *
  clear hp hs
  go_enter Try.func15, Try.ntmps15
  go_wp2
  go_ret
  exact ⟨rfl, rfl⟩
end Go.Proofs.Ytinndmglacfofaa
