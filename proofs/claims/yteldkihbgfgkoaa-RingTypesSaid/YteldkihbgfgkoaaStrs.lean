/- Two rings side by side: of strings and of pairs of strings. -/
import Derived.Test.YteldkihbgfgkoaaPushStr
import Derived.Test.YteldkihbgfgkoaaPushPair
import Derived.Test.YteldkihbgfgkoaaOneStr
import Derived.Test.YteldkihbgfgkoaaTwoPair
import Derived.Test.YteldkihbgfgkoaaAlive
import Derived.Test.YteldkihbgfgkoaaSame
namespace Go.Proofs.Yteldkihbgfgkoaa
open Go Go.RowKit
set_option linter.unusedVariables false

def flat (L : List ByteArray) : List Value := L.flatMap fun x => [.string x, .string x]
theorem flat_append (L M : List ByteArray) : flat (L ++ M) = flat L ++ flat M := by simp [flat]
def Rings (w : World) (B b d : Nat) (g h : Option Nat) (L M : List ByteArray) : Prop :=
  RingAt 68 9 1 w b g 3 L.length (L.map Value.string) ∧ RingAt 71 52 2 w d h 3 M.length (flat M) ∧ (∀ i, Foot b g i → B ≤ i) ∧ (∀ i, Foot d h i → B ≤ i) ∧ ∀ i, Foot b g i → ¬ Foot d h i
theorem equal_pair (w : World) (s : ByteArray) : (Op.equalIn 10000 52 (.agg #[.string s, .string s]) (.agg #[.string s, .string s])).run Try.prog w = .ok true w := by
  obtain ⟨i, hi⟩ := Go.info_of_underlying Try.underlying9
  refine equal_array_string (e := 9) (n := 2) w _ Try.underlying52 hi (by kernel_rfl) Try.underlying9 (fun j hj => ⟨s, ?_⟩)
  obtain rfl | rfl : j = 0 ∨ j = 1 := by omega
  · rfl
  · rfl
section
variable {w w' : World} {B b d : Nat} {g h : Option Nat} {L M : List ByteArray}
theorem Rings.kept (hr : Rings w B b d g h L M) (hk : Kept (fun _ => False) w w') : Rings w' B b d g h L M :=
  ⟨hr.1.kept hk (fun _ _ h => h), hr.2.1.kept hk (fun _ _ h => h), hr.2.2⟩
theorem Rings.Ble (hr : Rings w B b d g h L M) : B ≤ w.heap.size := Nat.le_trans (hr.2.2.1 b (.inl rfl)) (Nat.le_of_lt (hr.1.lt b (.inl rfl)))
theorem rings_new (w : World) (B : Nat) (hB : B ≤ w.heap.size) : Rings ((w.alloc (.cells #[.int .i64 3, .slice none 0 0, .int .i64 0, .int .i64 0] 68)).alloc (.cells #[.int .i64 3, .slice none 0 0, .int .i64 0, .int .i64 0] 71)) B w.heap.size (w.heap.size + 1) none none [] [] := by
  have h1 := ringAt_new w 68 9 1 3 (by omega) (by omega)
  have h2 := ringAt_new (w.alloc (.cells #[.int .i64 3, .slice none 0 0, .int .i64 0, .int .i64 0] 68)) 71 52 2 3 (by omega) (by omega)
  have hz : (w.alloc (.cells #[.int .i64 3, .slice none 0 0, .int .i64 0, .int .i64 0] 68)).heap.size = w.heap.size + 1 := by simp
  rw [show ((3 : Nat) : Int) = 3 from rfl, hz] at h2
  refine ⟨h1.kept (S := fun _ => False) ((Kept.refl _ _).alloc _) (fun _ _ h => h), h2, foot_none hB, foot_none (by omega), ?_⟩
  rintro i (rfl | hi) (h | h)
  · omega
  · cases h
  · cases hi
  · cases hi
theorem push_str {m p : Nat} (x : ByteArray) (hr : Rings w B b d g h L M) (hp : Blk w p 9 #[.string x]) (hn : ¬ Foot b g p) (hm : min 1 (3 - L.length) = m) :
    Calls Try.prog 23 #[.pointer (some ⟨b, 0, none⟩), .slice (some ⟨p, 0, none⟩) 1 1] w fun e w' => e = .returned (.int .i64 m) ∧ (∃ g', Rings w' B b d g' h (L ++ [x].take m) M) ∧ ∀ a, Below B a w → Below B a w' := by
  have hs : Src w (Foot b g) (some ⟨p, 0, none⟩) 1 1 [.string x] := src_blk (t := 9) hp hn rfl (fun v hv => by simp at hv; subst hv; rfl)
  have := rs_push_any b 3 L.length 1 1 g _ _ _ w hr.1 hs (by omega) (by omega)
  rw [hm, Nat.mul_one] at this
  refine this.mono ?_
  rintro e w1 ⟨rfl, g', r1, m1, k1⟩
  have e1 : L.length + m = (L ++ [x].take m).length := by rw [List.length_append, List.length_take]; simp; omega
  have e2 : L.map Value.string ++ [.string x].take m = (L ++ [x].take m).map Value.string := by rw [List.map_append, List.map_take]; rfl
  rw [e1, e2] at r1
  refine ⟨rfl, ⟨g', r1, hr.2.1.kept k1 (fun i hi hb => hr.2.2.2.2 i hb hi), foot_moved hr.2.2.1 m1 hr.Ble, hr.2.2.2.1, fun i hi hd => ?_⟩, fun a ha => Kept.below ha k1 hr.2.2.1 hr.Ble⟩
  exact foot_not (fun hb => hr.2.2.2.2 i hb hd) m1 (hr.2.1.lt i hd) hi
theorem push_pair {m p : Nat} (x : ByteArray) (hr : Rings w B b d g h L M) (hp : Blk w p 52 #[.string x, .string x]) (hn : ¬ Foot d h p) (hm : min 1 (3 - M.length) = m) :
    Calls Try.prog 24 #[.pointer (some ⟨d, 0, none⟩), .slice (some ⟨p, 0, none⟩) 1 1] w fun e w' => e = .returned (.int .i64 m) ∧ (∃ h', Rings w' B b d g h' L (M ++ [x].take m)) ∧ ∀ a, Below B a w → Below B a w' := by
  have hs : Src w (Foot d h) (some ⟨p, 0, none⟩) 1 2 [.string x, .string x] :=
    ⟨rfl, fun v hv => by simp at hv; subst hv; rfl, fun _ => ⟨_, rfl, hn, fun j v hv => by rw [add_plain, Nat.zero_add, hp.cell]; simpa using hv⟩⟩
  have := rp_push_any d 3 M.length 1 1 h _ _ _ w hr.2.1 hs (by omega) (by omega)
  rw [hm] at this
  refine this.mono ?_
  rintro e w1 ⟨rfl, h', r1, m1, k1⟩
  have e1 : M.length + m = (M ++ [x].take m).length := by rw [List.length_append, List.length_take]; simp; omega
  have e2 : flat M ++ [.string x, .string x].take (m * 2) = flat (M ++ [x].take m) := by
    rw [flat_append]
    obtain rfl | rfl : m = 0 ∨ m = 1 := by omega
    · rfl
    · rfl
  rw [e1, e2] at r1
  have hdB := hr.2.2.2.1
  refine ⟨rfl, ⟨h', hr.1.kept k1 (fun i hi hb => hr.2.2.2.2 i hi hb), r1, hr.2.2.1, foot_moved hdB m1 hr.Ble, fun i hi hd => ?_⟩, fun a ha => Kept.below ha k1 hdB hr.Ble⟩
  exact foot_not (hr.2.2.2.2 i hi) m1 (hr.1.lt i hi) hd
/-- Both are popped. -/
theorem pops (hr : Rings w B b d g h L L) : ∃ (s : ByteArray) (ok : Bool) (L' : List ByteArray),
    Calls Try.prog 25 #[.pointer (some ⟨b, 0, none⟩)] w fun e w1 => e = .returned (.tuple #[.string s, .bool ok]) ∧ (∀ a, Below B a w → Below B a w1) ∧ B ≤ w1.heap.size ∧
      Calls Try.prog 26 #[.pointer (some ⟨d, 0, none⟩)] w1 fun e w2 => e = .returned (.tuple #[.agg #[.string s, .string s], .bool ok]) ∧ Rings w2 B b d g h L' L' ∧ ∀ a, Below B a w1 → Below B a w2 := by
  have hB := hr.Ble
  cases L with
  | nil =>
    refine ⟨ByteArray.empty, false, [], (rs_pop_empty b w hr.1.cells.2).mono ?_⟩
    rintro e w1 ⟨rfl, rfl⟩
    refine ⟨rfl, fun a h => h, hB, (rp_pop_empty d w hr.2.1.cells.2).mono ?_⟩
    rintro e w2 ⟨rfl, b2⟩
    exact ⟨rfl, hr.kept (Kept.of_below b2), fun a ha => ha.trans (b2.mono hB)⟩
  | cons x L =>
    refine ⟨x, true, L, (rs_pop_at b 3 L.length g (L.map Value.string) (.string x) w hr.1).mono ?_⟩
    rintro e w1 ⟨rfl, r1, k1⟩
    have hd : RingAt 71 52 2 w1 d h 3 (L.length + 1) (.string x :: .string x :: flat L) := hr.2.1.kept k1 (fun i hi hb => hr.2.2.2.2 i hb hi)
    refine ⟨rfl, fun a ha => Kept.below ha k1 hr.2.2.1 hB, Nat.le_trans hB k1.size, (rp_pop_at d 3 L.length h _ _ _ w1 hd).mono ?_⟩
    rintro e w2 ⟨rfl, r2, k2⟩
    exact ⟨rfl, ⟨r1.kept k2 (fun i hi hb => hr.2.2.2.2 i hi hb), r2, hr.2.2⟩, fun a ha => Kept.below ha k2 hr.2.2.2.1 (Nat.le_trans hB k1.size)⟩
end
end Go.Proofs.Yteldkihbgfgkoaa
