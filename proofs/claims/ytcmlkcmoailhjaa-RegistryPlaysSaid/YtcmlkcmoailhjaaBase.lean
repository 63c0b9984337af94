/- The registry in memory; New, Len, Active, Total, Count, has; status.Live and the reference's. -/
import Derived.Test.YtcmlkcmoailhjaaVal
import Derived.Test.YtcmlkcmoailhjaaKept
import Derived.Test.YtcmlkcmoailhjaaCount
import Derived.Test.YtcmlkcmoailhjaaAppend
import Derived.Test.YtcmlkcmoailhjaaAdd
import Derived.Test.YtcmlkcmoailhjaaBuild
namespace Go.Proofs.Ytcmlkcmoailhjaa
open Go Go.RowKit Go.Deep
set_option linter.unusedVariables false

def liveB (s : Int) : Bool := decide (s = 2 ∨ s = 3)
def totalOf : List Val → Int
  | [] => 0
  | v :: l => v.bal + totalOf l
def liveBal (v : Val) : Int := if liveB v.st = true then v.bal else 0
def activeOf : List Val → Int
  | [] => 0
  | v :: l => liveBal v + activeOf l
def countOf : List Val → Int → Int
  | [], _ => 0
  | v :: l, s => (if v.st = s then 1 else 0) + countOf l s
theorem liveBal_le {v : Val} (h : 0 ≤ v.bal) : 0 ≤ liveBal v ∧ liveBal v ≤ v.bal := by unfold liveBal; split <;> omega
theorem total_append (l m : List Val) : totalOf (l ++ m) = totalOf l + totalOf m := by
  induction l with
  | nil => simp [totalOf]
  | cons v l ih => simp only [List.cons_append, totalOf, ih]; omega
theorem active_append (l m : List Val) : activeOf (l ++ m) = activeOf l + activeOf m := by
  induction l with
  | nil => simp [activeOf]
  | cons v l ih => simp only [List.cons_append, activeOf, ih]; omega
theorem count_append (l m : List Val) (s : Int) : countOf (l ++ m) s = countOf l s + countOf m s := by
  induction l with
  | nil => simp [countOf]
  | cons v l ih => simp only [List.cons_append, countOf, ih]; omega
theorem total_nonneg {l : List Val} (h : ∀ v ∈ l, FitsV v) : 0 ≤ totalOf l := by
  induction l with
  | nil => simp [totalOf]
  | cons v l ih =>
    have h1 := (h v (by simp)).bal
    have h2 := ih (fun x hx => h x (by simp [hx]))
    simp only [totalOf]; omega
theorem active_le {l : List Val} (h : ∀ v ∈ l, FitsV v) : 0 ≤ activeOf l ∧ activeOf l ≤ totalOf l := by
  induction l with
  | nil => simp [totalOf, activeOf]
  | cons v l ih =>
    have h1 := liveBal_le (h v (by simp)).bal.1
    have h2 := ih (fun x hx => h x (by simp [hx]))
    simp only [totalOf, activeOf]; omega
theorem count_bounds (l : List Val) (s : Int) : 0 ≤ countOf l s ∧ countOf l s ≤ l.length := by
  induction l with
  | nil => simp [countOf]
  | cons v l ih =>
    simp only [countOf, List.length_cons]
    split <;> omega
theorem split_at {l : List Val} {i : Nat} {old : Val} (h : l[i]? = some old) : ∃ l1 l2, l = l1 ++ old :: l2 ∧ ∀ v, l.set i v = l1 ++ v :: l2 := by
  have hi := (List.getElem?_eq_some_iff.1 h).1
  have he := (List.getElem?_eq_some_iff.1 h).2
  refine ⟨l.take i, l.drop (i + 1), ?_, fun v => ?_⟩
  · rw [← he]
    rw [List.getElem_cons_drop, List.take_append_drop]
  · rw [List.set_eq_take_append_cons_drop, if_pos hi]
theorem total_set {l : List Val} {i : Nat} {old : Val} (h : l[i]? = some old) (v : Val) : totalOf (l.set i v) = totalOf l - old.bal + v.bal := by
  obtain ⟨l1, l2, h1, h2⟩ := split_at h
  rw [h2, h1, total_append, total_append]
  simp only [totalOf]; omega
theorem active_set {l : List Val} {i : Nat} {old : Val} (h : l[i]? = some old) (v : Val) : activeOf (l.set i v) = activeOf l - liveBal old + liveBal v := by
  obtain ⟨l1, l2, h1, h2⟩ := split_at h
  rw [h2, h1, active_append, active_append]
  simp only [activeOf]; omega
theorem count_set {l : List Val} {i : Nat} {old : Val} (h : l[i]? = some old) (v : Val) (s : Int) : countOf (l.set i v) s = countOf l s - (if old.st = s then 1 else 0) + (if v.st = s then 1 else 0) := by
  obtain ⟨l1, l2, h1, h2⟩ := split_at h
  rw [h2, h1, count_append, count_append]
  simp only [countOf]; omega

/-! ### in memory -/
/-- The registry's block and its counters. -/
def RegB (w : World) (b m : Nat) (s : Value) (cap : Nat) (c : Int → Int) (A T : Int) : Prop :=
  Blk w b 56 #[.int .i64 cap, s, .map (some m), .int .u64 A, .int .u64 T] ∧ CntAt w m c
/-- A registry that holds l; S are its blocks. -/
def Reg (w : World) (b : Nat) (S : Nat → Prop) (cap : Nat) (l : List Val) : Prop :=
  ∃ m s, RegB w b m s cap (countOf l) (activeOf l) (totalOf l) ∧ w.ownsRow 0 29 7 s l.length (flat l) ∧ 1 ≤ cap ∧ cap ≤ 4096 ∧ l.length ≤ cap ∧ totalOf l ≤ 18446744073709551615 ∧ (∀ v ∈ l, FitsV v) ∧ ∀ i, S i ↔ i = b ∨ i = m ∨ s.ownBlock = some i
section
variable {w w' : World} {b m cap : Nat} {s : Value} {S T : Nat → Prop} {l : List Val} {c : Int → Int} {A Tt : Int}
theorem RegB.ne (h : RegB w b m s cap c A Tt) : b ≠ m := by
  rintro rfl
  obtain ⟨h1, es, clock, h2, _⟩ := h
  unfold Blk at h1
  rw [h1] at h2
  cases h2
theorem RegB.cells (h : RegB w b m s cap c A Tt) : w.cell? ⟨b, 0, none⟩ = some (.int .i64 cap) ∧ w.cell? ⟨b, 1, none⟩ = some s ∧ w.cell? ⟨b, 2, none⟩ = some (.map (some m)) ∧ w.cell? ⟨b, 3, none⟩ = some (.int .u64 A) ∧ w.cell? ⟨b, 4, none⟩ = some (.int .u64 Tt) :=
  ⟨h.1.cell 0, h.1.cell 1, h.1.cell 2, h.1.cell 3, h.1.cell 4⟩
theorem RegB.same (h : RegB w b m s cap c A Tt) (hb : w'.heap[b]? = w.heap[b]?) (hm : w'.heap[m]? = w.heap[m]?) : RegB w' b m s cap c A Tt := ⟨hb.trans h.1, h.2.same hm⟩
theorem owns_slice {n : Nat} {xs : List Value} (h : w.ownsRow 0 29 7 s n xs) : ∃ a cp, s = .slice a n cp ∧ n ≤ cp ∧ cp ≤ maxLen := by
  rcases h.2 with ⟨rfl, rfl⟩ | ⟨g, cp, cur, rfl, _, _, h1, h2, _⟩
  · exact ⟨none, 0, rfl, by omega, by unfold maxLen; omega⟩
  · exact ⟨_, cp, rfl, h1, h2⟩
theorem owns_lst {l : List Val} {a : Option Addr} {cp : Nat} (h : w.ownsRow 0 29 7 (.slice a l.length cp) l.length (flat l)) (hS : ∀ i, (Value.slice a l.length cp).ownBlock = some i → ¬ S i) : Lst w S a l := fun h0 => by
  rcases h.2 with ⟨h1, h2⟩ | ⟨g, cp', cur, h1, _, h3, _⟩
  · omega
  · injection h1 with h1 _ _
    subst h1
    refine ⟨g, 0, rfl, hS g rfl, (Array.getElem?_eq_some_iff.1 h3).1, fun i v hi => ?_⟩
    exact range_of_flat (fun j u hu => by
      have := h.cells rfl j u hu
      rwa [add_plain] at this) hi
theorem owns_same {n : Nat} {xs : List Value} (h : w.ownsRow 0 29 7 s n xs) (hb : ∀ i, s.ownBlock = some i → w'.heap[i]? = w.heap[i]?) : w'.ownsRow 0 29 7 s n xs := by
  refine ⟨h.1, h.2.imp id ?_⟩
  rintro ⟨g, cp, cur, rfl, h1, h2, h3⟩
  exact ⟨g, cp, cur, rfl, h1, (hb g rfl).trans h2, h3⟩
theorem Reg.lt (h : Reg w b S cap l) : ∀ i, S i → i < w.heap.size := fun i hi => by
  obtain ⟨m, s, h1, h2, _, _, _, _, _, hS⟩ := h
  rcases (hS i).1 hi with rfl | rfl | hs
  · exact h1.1.lt
  · exact h1.2.lt
  · exact (h2.lt i hs).2
theorem Reg.same (h : Reg w b S cap l) (hb : ∀ i, S i → w'.heap[i]? = w.heap[i]?) : Reg w' b S cap l := by
  obtain ⟨m, s, h1, h2, h3, h4, h5, h6, h7, hS⟩ := h
  exact ⟨m, s, h1.same (hb b ((hS b).2 (.inl rfl))) (hb m ((hS m).2 (.inr (.inl rfl)))), owns_same h2 (fun i hi => hb i ((hS i).2 (.inr (.inr hi)))), h3, h4, h5, h6, h7, hS⟩
theorem Reg.kept (h : Reg w b S cap l) (k : Kept T w w') (hT : ∀ i, S i → ¬ T i) : Reg w' b S cap l := h.same fun i hi => k.block i (h.lt i hi) (hT i hi)
theorem Reg.below (h : Reg w b S cap l) (k : Below w.heap.size w w') : Reg w' b S cap l := h.same fun i hi => k.block i (h.lt i hi)
theorem Reg.alloc (h : Reg w b S cap l) (o : Obj) : Reg (w.alloc o) b S cap l := h.below ((Below.refl _ _).alloc (Nat.le_refl _) o)
theorem Reg.drewN (h : Reg w b S cap l) (n : Nat) : Reg (w.drewN n) b S cap l := h
theorem Reg.drew (h : Reg w b S cap l) : Reg w.drew b S cap l := h
theorem Reg.pos (h : Reg w b S cap l) : S b := by
  obtain ⟨m, s, h1, h2, h3, h4, h5, h6, h7, hS⟩ := h
  exact (hS b).2 (.inl rfl)
theorem Reg.fits (h : Reg w b S cap l) : 1 ≤ cap ∧ cap ≤ 4096 ∧ l.length ≤ cap ∧ totalOf l ≤ 18446744073709551615 ∧ ∀ v ∈ l, FitsV v := by
  obtain ⟨m, s, h1, h2, h3, h4, h5, h6, h7, hS⟩ := h
  exact ⟨h3, h4, h5, h6, h7⟩
theorem Reg.cells (h : Reg w b S cap l) : ∃ m a cp, w.cell? ⟨b, 0, none⟩ = some (.int .i64 cap) ∧ w.cell? ⟨b, 1, none⟩ = some (.slice a l.length cp) ∧ w.cell? ⟨b, 2, none⟩ = some (.map (some m)) ∧ w.cell? ⟨b, 3, none⟩ = some (.int .u64 (activeOf l)) ∧ w.cell? ⟨b, 4, none⟩ = some (.int .u64 (totalOf l)) ∧
    l.length ≤ cp ∧ cp ≤ maxLen ∧ CntAt w m (countOf l) ∧ Lst w (fun _ => False) a l := by
  obtain ⟨m, s, h1, h2, h3, h4, h5, h6, h7, hS⟩ := h
  obtain ⟨a, cp, rfl, q1, q2⟩ := owns_slice h2
  exact ⟨m, a, cp, h1.cells.1, h1.cells.2.1, h1.cells.2.2.1, h1.cells.2.2.2.1, h1.cells.2.2.2.2, q1, q2, h1.2, owns_lst h2 (fun _ _ h => h)⟩
end

/-! ### Live -/
theorem live_any (s : Int) (w : World) : Calls Try.prog 37 #[.int .i64 s] w fun e w' => e = .returned (.bool (liveB s)) ∧ w = w' := by
  by_cases h2 : s = 2
  · subst h2
    go_enter Try.func37, Try.ntmps37
    go_wp2
    go_ret
    exact ⟨rfl, rfl⟩
  · by_cases h3 : s = 3
    · subst h3
      go_enter Try.func37, Try.ntmps37
      go_wp2
      go_ret
      exact ⟨rfl, rfl⟩
    · have hb : Hid (liveB s = false) := Lib.hid (by unfold liveB; simp [h2, h3])
      go_enter Try.func37, Try.ntmps37
      go_wp2
      go_ret
      exact ⟨by rw [hb.out]; simp [h2, h3], rfl⟩
theorem reflive_any (s : Int) (w : World) : Calls Try.prog 26 #[.int .i64 s] w fun e w' => e = .returned (.bool (liveB s)) ∧ w = w' := by
  by_cases h2 : s = 2
  · subst h2
    go_enter Try.func26, Try.ntmps26
    go_wp2
    go_ret
    exact ⟨rfl, rfl⟩
  · by_cases h3 : s = 3
    · subst h3
      go_enter Try.func26, Try.ntmps26
      go_wp2
      go_ret
      exact ⟨rfl, rfl⟩
    · have hb : Hid (liveB s = false) := Lib.hid (by unfold liveB; simp [h2, h3])
      go_enter Try.func26, Try.ntmps26
      go_wp2
      go_ret
      exact ⟨by rw [hb.out]; simp [h2, h3], rfl⟩

/-! ### New and the readers -/
theorem new_none (s : Int) (w : World) (h : s < 1 ∨ 4096 < s) :
    Calls Try.prog 9 #[.int .i64 s] w fun e w' => e = .returned (.pointer none) ∧ w = w' := by
  rcases h with h | h
  · go_enter Try.func9, Try.ntmps9
    go_wp2
    go_ret
    exact ⟨rfl, rfl⟩
  · have h0 : ¬ s < 1 := by omega
    go_enter Try.func9, Try.ntmps9
    go_wp2
    go_ret
    exact ⟨rfl, rfl⟩
theorem new_raw (s : Nat) (w : World) (h : 1 ≤ s) (h2 : s ≤ 4096) :
    Calls Try.prog 9 #[.int .i64 s] w fun e w' => e = .returned (.pointer (some ⟨w.heap.size + 1, 0, none⟩)) ∧ (w.alloc (.map #[] 0)).alloc (.cells #[.int .i64 s, .slice none 0 0, .map (some w.heap.size), .int .u64 0, .int .u64 0] 56) = w' := by
  have h0 : ¬ (s : Int) < 1 := by omega
  have h3 : ¬ (4096 : Int) < (s : Int) := by omega
  have hmm := @run_makeMap Try.prog
  go_enter Try.func9, Try.ntmps9
  go_wp2
  go_ret
  exact ⟨rfl, rfl⟩
theorem new_any (cap : Nat) (w : World) (h : 1 ≤ cap) (h2 : cap ≤ 4096) :
    Calls Try.prog 9 #[.int .i64 cap] w fun e w' => ∃ b S, e = .returned (.pointer (some ⟨b, 0, none⟩)) ∧ Reg w' b S cap [] ∧ (∀ i, S i → w.heap.size ≤ i) ∧ Below w.heap.size w w' := by
  refine (new_raw cap w h h2).mono ?_
  rintro e w' ⟨rfl, rfl⟩
  refine ⟨w.heap.size + 1, fun i => i = w.heap.size + 1 ∨ i = w.heap.size, rfl, ⟨w.heap.size, .slice none 0 0, ⟨?_, ?_⟩, World.ownsRow_nil _ _ _ _, h, h2, by simp, by simp [totalOf], by simp, fun i => by simp [Value.ownBlock]⟩, fun i hi => by omega, ?_⟩
  · have := Blk.new (w.alloc (.map #[] 0)) 56 #[.int .i64 cap, .slice none 0 0, .map (some w.heap.size), .int .u64 0, .int .u64 0]
    simpa [activeOf, totalOf] using this
  · exact ((cntAt_made w).alloc _).congr (fun q => by simp [countOf])
  · exact ((Below.refl _ _).alloc (Nat.le_refl _) _).alloc (by simp) _
theorem len_nil (w : World) : Calls Try.prog 12 #[.pointer none] w fun e w' => e = .returned (.int .i64 0) ∧ w = w' := by
  go_enter Try.func12, Try.ntmps12
  go_wp2
  go_ret
  exact ⟨rfl, rfl⟩
theorem len_any (b n cp : Nat) (a : Option Addr) (w : World) (h : w.cell? ⟨b, 1, none⟩ = some (.slice a n cp)) : Calls Try.prog 12 #[.pointer (some ⟨b, 0, none⟩)] w fun e w' => e = .returned (.int .i64 n) ∧ w = w' := by
  go_enter Try.func12, Try.ntmps12
  go_wp2
  go_ret
  exact ⟨rfl, rfl⟩
theorem active_nil (w : World) : Calls Try.prog 13 #[.pointer none] w fun e w' => e = .returned (.int .u64 0) ∧ w = w' := by
  go_enter Try.func13, Try.ntmps13
  go_wp2
  go_ret
  exact ⟨rfl, rfl⟩
theorem active_any (b : Nat) (A : Int) (w : World) (h : w.cell? ⟨b, 3, none⟩ = some (.int .u64 A)) : Calls Try.prog 13 #[.pointer (some ⟨b, 0, none⟩)] w fun e w' => e = .returned (.int .u64 A) ∧ w = w' := by
  go_enter Try.func13, Try.ntmps13
  go_wp2
  go_ret
  exact ⟨rfl, rfl⟩
theorem total_nil (w : World) : Calls Try.prog 15 #[.pointer none] w fun e w' => e = .returned (.int .u64 0) ∧ w = w' := by
  go_enter Try.func15, Try.ntmps15
  go_wp2
  go_ret
  exact ⟨rfl, rfl⟩
theorem total_any (b : Nat) (A : Int) (w : World) (h : w.cell? ⟨b, 4, none⟩ = some (.int .u64 A)) : Calls Try.prog 15 #[.pointer (some ⟨b, 0, none⟩)] w fun e w' => e = .returned (.int .u64 A) ∧ w = w' := by
  go_enter Try.func15, Try.ntmps15
  go_wp2
  go_ret
  exact ⟨rfl, rfl⟩
theorem zero_int (w : World) : (zeroValue 3).run Try.prog w = .ok (.int .i64 0) w := by
  obtain ⟨i, hi, hz, _⟩ := info_of (P := Try.prog) (t := 3) (z := .int .i64 0) (n := 1) (by kernel_rfl)
  simp [zeroValue, typeInfo, hi, hz, Result.andThen]
theorem count_nil (s : Int) (w : World) : Calls Try.prog 19 #[.pointer none, .int .i64 s] w fun e w' => e = .returned (.int .i64 0) ∧ w = w' := by
  go_enter Try.func19, Try.ntmps19
  go_wp2
  go_ret
  exact ⟨rfl, rfl⟩
theorem count_any (b m : Nat) (c : Int → Int) (s : Int) (w : World) (h : w.cell? ⟨b, 2, none⟩ = some (.map (some m))) (hc : CntAt w m c) (hs : (Lit.int .i64 s).wf = true) :
    Calls Try.prog 19 #[.pointer (some ⟨b, 0, none⟩), .int .i64 s] w fun e w' => e = .returned (.int .i64 (c s)) ∧ w = w' := by
  have hl := hc.lookup Try.underlying3 Try.underlying54 (zero_int w) hs
  generalize c s = q at *
  clear hc
  go_enter Try.func19, Try.ntmps19
  go_wp2
  go_ret
  exact ⟨rfl, rfl⟩
theorem has_neg (p : Option Addr) (i : Int) (w : World) (h : i < 0) : Calls Try.prog 30 #[.pointer p, .int .i64 i] w fun e w' => e = .returned (.bool false) ∧ w = w' := by
  have h1 : ¬ 0 ≤ i := by omega
  go_enter Try.func30, Try.ntmps30
  go_wp2
  go_ret
  exact ⟨rfl, rfl⟩
theorem has_nil (i : Int) (w : World) : Calls Try.prog 30 #[.pointer none, .int .i64 i] w fun e w' => e = .returned (.bool false) ∧ w = w' := by
  by_cases h : i < 0
  · exact has_neg none i w h
  · have h1 : 0 ≤ i := by omega
    go_enter Try.func30, Try.ntmps30
    go_wp2_with fail
    refine (len_nil _).mono ?_
    rintro e w' ⟨rfl, rfl⟩
    go_wp2
    go_ret
    exact ⟨ret_bool (by simp; omega), rfl⟩
theorem has_out (b n cp : Nat) (a : Option Addr) (i : Int) (w : World) (h : w.cell? ⟨b, 1, none⟩ = some (.slice a n cp)) (ho : i < 0 ∨ n ≤ i) : Calls Try.prog 30 #[.pointer (some ⟨b, 0, none⟩), .int .i64 i] w fun e w' => e = .returned (.bool false) ∧ w = w' := by
  by_cases h0 : i < 0
  · exact has_neg _ i w h0
  · have h1 : 0 ≤ i := by omega
    have h2 : ¬ i < n := by omega
    clear ho
    go_enter Try.func30, Try.ntmps30
    go_wp2_with fail
    refine (len_any b n cp a _ h).mono ?_
    rintro e w' ⟨rfl, rfl⟩
    go_wp2
    go_ret
    exact ⟨ret_bool (by simp; omega), rfl⟩
theorem has_in (b n cp i : Nat) (a : Option Addr) (w : World) (h : w.cell? ⟨b, 1, none⟩ = some (.slice a n cp)) (ho : i < n) : Calls Try.prog 30 #[.pointer (some ⟨b, 0, none⟩), .int .i64 i] w fun e w' => e = .returned (.bool true) ∧ w = w' := by
  have h1 : (0 : Int) ≤ i := by omega
  have h2 : (i : Int) < n := by omega
  go_enter Try.func30, Try.ntmps30
  go_wp2_with fail
  refine (len_any b n cp a _ h).mono ?_
  rintro e w' ⟨rfl, rfl⟩
  go_wp2
  go_ret
  exact ⟨rfl, rfl⟩
end Go.Proofs.Ytcmlkcmoailhjaa
