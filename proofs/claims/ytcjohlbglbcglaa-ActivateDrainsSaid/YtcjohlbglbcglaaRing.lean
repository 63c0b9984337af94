/- Rings of elements of k cells: what is known of one. No program in sight (R: the ring's type, E: the element's). -/
import Derived.Test.YtcjohlbglbcglaaWheel
import Derived.Test.YtcjohlbglbcglaaKept
import Derived.Test.YtcjohlbglbcglaaTail
import Derived.Laws.MakeOwn
import Derived.Laws.Entries
import Derived.OwnWalk
namespace Go.Proofs.Ytcjohlbglbcglaa
open Go.RowKit

/-- A ring with n slots, the first element in slot f, c elements; the slots' cells are C. -/
def RingIn (R E k : Nat) (w : World) (b g size n f c : Nat) (C : List Value) : Prop :=
  Blk w b R #[.int .i64 size, .slice (some ⟨g, 0, none⟩) n n, .int .i64 f, .int .i64 c] ∧ Blk w g E C.toArray ∧ C.length = n * k ∧ f < n ∧ c ≤ n ∧ n ≤ size ∧ size ≤ 1048576
/-- A ring without slots. -/
def RingNew (R : Nat) (w : World) (b size : Nat) : Prop := Blk w b R #[.int .i64 size, .slice none 0 0, .int .i64 0, .int .i64 0] ∧ 1 ≤ size ∧ size ≤ 1048576
/-- The ring in block b, its slots in block g (none: it has none yet): for 'size' elements; it holds c, their cells are F. -/
def RingAt (R E k : Nat) (w : World) (b : Nat) (g : Option Nat) (size c : Nat) (F : List Value) : Prop :=
  F.length = c * k ∧ (∀ v ∈ F, v.oneCell' = true) ∧
  ((g = none ∧ c = 0 ∧ RingNew R w b size) ∨ ∃ g' n f C, g = some g' ∧ RingIn R E k w b g' size n f c C ∧ Wheel C (f * k) F)
/-- The blocks of a ring. -/
def Foot (b : Nat) (g : Option Nat) (i : Nat) : Prop := i = b ∨ some i = g
/-- The slots have stayed, or they are new. -/
def Moved (w : World) (g g' : Option Nat) : Prop := ∀ i, g' = some i → g = some i ∨ w.heap.size ≤ i

section
variable {R E k b g size n f c : Nat} {C F : List Value} {w w' : World} {S : Nat → Prop} {go : Option Nat}
theorem RingIn.kept (h : RingIn R E k w b g size n f c C) (hk : Kept S w w') (hb : ¬ S b) (hg : ¬ S g) : RingIn R E k w' b g size n f c C :=
  ⟨h.1.kept hk hb, h.2.1.kept hk hg, h.2.2⟩
theorem RingNew.kept (h : RingNew R w b size) (hk : Kept S w w') (hb : ¬ S b) : RingNew R w' b size := ⟨h.1.kept hk hb, h.2⟩
theorem RingAt.kept (h : RingAt R E k w b go size c F) (hk : Kept S w w') (hS : ∀ i, Foot b go i → ¬ S i) : RingAt R E k w' b go size c F := by
  obtain ⟨h1, h2, h3⟩ := h
  refine ⟨h1, h2, ?_⟩
  rcases h3 with ⟨rfl, hc, hn⟩ | ⟨g', n, f, C, rfl, hi, hw⟩
  · exact .inl ⟨rfl, hc, hn.kept hk (hS _ (.inl rfl))⟩
  · exact .inr ⟨g', n, f, C, rfl, hi.kept hk (hS _ (.inl rfl)) (hS _ (.inr rfl)), hw⟩
theorem RingAt.drewN (h : RingAt R E k w b go size c F) (m : Nat) : RingAt R E k (w.drewN m) b go size c F := h
theorem RingAt.size_le (h : RingAt R E k w b go size c F) : c ≤ size ∧ 1 ≤ size ∧ size ≤ 1048576 := by
  obtain ⟨_, _, ⟨_, rfl, _, h1, h2⟩ | ⟨g', n, f, C, rfl, ⟨_, _, _, h1, h2, h3, h4⟩, _⟩⟩ := h
  · exact ⟨by omega, h1, h2⟩
  · exact ⟨by omega, by omega, h4⟩
theorem RingAt.lt (h : RingAt R E k w b go size c F) : ∀ i, Foot b go i → i < w.heap.size := by
  obtain ⟨_, _, ⟨rfl, _, h1, _⟩ | ⟨g', n, f, C, rfl, ⟨h1, h2, _⟩, _⟩⟩ := h
  · rintro i (rfl | h)
    · exact h1.lt
    · cases h
  · rintro i (rfl | h)
    · exact h1.lt
    · injection h with h
      subst h
      exact h2.lt
theorem RingIn.ne (h : RingIn R E k w b g size n f c C) (hRE : R ≠ E) : b ≠ g := Blk.ne_ h.1 h.2.1 hRE
theorem RingIn.at_ (h : RingIn R E k w b g size n f c C) (hw : Wheel C (f * k) F) (hF : F.length = c * k) (h1 : ∀ v ∈ F, v.oneCell' = true) : RingAt R E k w b (some g) size c F := ⟨hF, h1, .inr ⟨g, n, f, C, rfl, h, hw⟩⟩
/-- The ring's four cells. -/
theorem RingIn.cells (h : RingIn R E k w b g size n f c C) : w.cell? ⟨b, 0, none⟩ = some (.int .i64 size) ∧ w.cell? ⟨b, 1, none⟩ = some (.slice (some ⟨g, 0, none⟩) n n) ∧ w.cell? ⟨b, 2, none⟩ = some (.int .i64 f) ∧ w.cell? ⟨b, 3, none⟩ = some (.int .i64 c) ∧
    w.frozen? ⟨b, 1, none⟩ = false ∧ w.frozen? ⟨b, 2, none⟩ = false ∧ w.frozen? ⟨b, 3, none⟩ = false :=
  ⟨h.1.cell 0, h.1.cell 1, h.1.cell 2, h.1.cell 3, h.1.frozen 1, h.1.frozen 2, h.1.frozen 3⟩
theorem RingNew.cells (h : RingNew R w b size) : w.cell? ⟨b, 0, none⟩ = some (.int .i64 size) ∧ w.cell? ⟨b, 1, none⟩ = some (.slice none 0 0) ∧ w.cell? ⟨b, 2, none⟩ = some (.int .i64 0) ∧ w.cell? ⟨b, 3, none⟩ = some (.int .i64 0) ∧
    w.frozen? ⟨b, 1, none⟩ = false ∧ w.frozen? ⟨b, 2, none⟩ = false ∧ w.frozen? ⟨b, 3, none⟩ = false :=
  ⟨h.1.cell 0, h.1.cell 1, h.1.cell 2, h.1.cell 3, h.1.frozen 1, h.1.frozen 2, h.1.frozen 3⟩
/-- The two cells that tell how many there are and may be. -/
theorem RingAt.cells (h : RingAt R E k w b go size c F) : w.cell? ⟨b, 0, none⟩ = some (.int .i64 size) ∧ w.cell? ⟨b, 3, none⟩ = some (.int .i64 c) := by
  obtain ⟨_, _, ⟨rfl, rfl, h1⟩ | ⟨g', n, f, C, rfl, h1, _⟩⟩ := h
  · exact ⟨h1.cells.1, h1.cells.2.2.2.1⟩
  · exact ⟨h1.cells.1, h1.cells.2.2.2.1⟩
theorem ringAt_new (w : World) (R E k size : Nat) (h1 : 1 ≤ size) (h2 : size ≤ 1048576) : RingAt R E k (w.alloc (.cells #[.int .i64 size, .slice none 0 0, .int .i64 0, .int .i64 0] R)) w.heap.size none size 0 [] :=
  ⟨by simp, by simp, .inl ⟨rfl, rfl, Blk.new _ _ _, h1, h2⟩⟩
/-- Where the cells of the list's first piece lie, and of the second. -/
theorem row_src {f u : Nat} (hB : Blk w g E C.toArray) (hw : Wheel C f F) (hu : f + u ≤ C.length) (j : Nat) (v : Value) (hv : (F.take u)[j]? = some v) : w.cell? ((⟨g, f, none⟩ : Addr).add j) = some v := by
  rw [add_plain, hB.cell]
  simpa using hw.read1 hu j v hv
theorem row_src2 {f : Nat} (hB : Blk w g E C.toArray) (hw : Wheel C f F) (j : Nat) (v : Value) (hv : (F.drop (C.length - f))[j]? = some v) : w.cell? ((⟨g, 0, none⟩ : Addr).add j) = some v := by
  rw [add_plain, hB.cell, Nat.zero_add]
  simpa using hw.read2 j v hv
theorem splice_two {D F : List Value} {u : Nat} (hF : F.length ≤ D.length) (hu : u ≤ F.length) : splice (splice D 0 (F.take u)) u (F.drop u) = F ++ D.drop F.length := by
  have l1 : (F.take u).length = u := by simp; omega
  have l2 : (F.drop u).length = F.length - u := by simp
  have e1 : (splice D 0 (F.take u)).length = D.length := length_splice _ _ _ (by omega)
  apply List.ext_getElem?
  intro p
  rw [splice_get _ _ _ (by omega), splice_get _ _ _ (by omega), l1, l2]
  by_cases h1 : p < u
  · rw [if_pos h1, if_neg (by omega), if_pos (by omega), List.getElem?_append_left (by omega), List.getElem?_take_of_lt (by omega), Nat.sub_zero]
  · rw [if_neg h1]
    by_cases h2 : p < F.length
    · rw [if_pos (by omega), List.getElem?_append_left h2, List.getElem?_drop, show u + (p - u) = p by omega]
    · rw [if_neg (by omega), if_neg (by omega), if_neg (by omega), List.getElem?_append_right (by omega), List.getElem?_drop, show F.length + (p - F.length) = p by omega]
theorem madeK_one {z : Array Value} (h : ∀ v ∈ z.toList, v.oneCell' = true) (hz : 0 < z.size) (n : Nat) : ∀ v ∈ (madeCells z n).toList, v.oneCell' = true := by
  intro v hv
  simp only [madeCells, Array.toList_map, List.mem_map, Array.toList_range, List.mem_range] at hv
  obtain ⟨i, hi, rfl⟩ := hv
  have hlt : i % z.size < z.size := Nat.mod_lt _ hz
  rw [getElem!_pos z _ hlt]
  exact h _ (Array.getElem_mem_toList hlt)
end
theorem add_block (a : Addr) (n : Nat) : (a.add n).block = a.block := by unfold Addr.add; split <;> rfl
theorem add_add_ (a : Addr) (i j : Nat) : (a.add i).add j = a.add (i + j) := by
  unfold Addr.add
  by_cases hi : i = 0 <;> by_cases hj : j = 0 <;> simp [hi, hj, Nat.add_assoc]
/-- A slice that is read: its cells, outside the blocks of S. -/
def Src (w : World) (S : Nat → Prop) (a : Option Addr) (len k : Nat) (cs : List Value) : Prop :=
  cs.length = len * k ∧ (∀ v ∈ cs, v.oneCell' = true) ∧ (0 < len → ∃ ad : Addr, a = some ad ∧ ¬ S ad.block ∧ ∀ j v, cs[j]? = some v → w.cell? (ad.add j) = some v)
theorem Src.nil (w : World) (S : Nat → Prop) (a : Option Addr) (k : Nat) : Src w S a 0 k [] := ⟨by simp, by simp, fun h => by omega⟩
theorem Src.kept {w w' : World} {S T : Nat → Prop} {a : Option Addr} {len k : Nat} {cs : List Value} (h : Src w S a len k cs) (hk : Kept T w w') (hT : ∀ i, i < w.heap.size → T i → S i) : Src w' S a len k cs := by
  obtain ⟨h1, h2, h3⟩ := h
  refine ⟨h1, h2, fun hl => ?_⟩
  obtain ⟨ad, e, hn, hc⟩ := h3 hl
  refine ⟨ad, e, hn, fun j v hv => hk.cell (fun ht => ?_) (hc j v hv)⟩
  have hl := cell_lt (hc j v hv)
  rw [add_block] at ht hl
  exact hn (hT _ hl ht)
theorem take_some {L : List Value} {u j : Nat} {v : Value} (h : (L.take u)[j]? = some v) : L[j]? = some v := by
  rcases Nat.lt_or_ge j u with h1 | h1
  · rwa [List.getElem?_take_of_lt h1] at h
  · rw [List.getElem?_eq_none (by simp; omega)] at h; cases h
theorem Src.sub {w : World} {S T : Nat → Prop} {a : Option Addr} {len k : Nat} {cs : List Value} (h : Src w S a len k cs) (hT : ∀ i, T i → S i) : Src w T a len k cs := by
  obtain ⟨h1, h2, h3⟩ := h
  exact ⟨h1, h2, fun hl => by obtain ⟨ad, e, hn, hc⟩ := h3 hl; exact ⟨ad, e, fun ht => hn (hT _ ht), hc⟩⟩
theorem push_wheel {C F cs : List Value} {f c n m s u k : Nat} (hw : Wheel C (f * k) F) (hF : F.length = c * k) (hC : C.length = n * k) (hcs : cs.length = m * k) (hcm : c + m ≤ n) (hs : s = (f + c) % n) (hu : u = min m (n - s)) :
    Wheel (splice (splice C (s * k) (cs.take (u * k))) 0 (cs.drop (u * k))) (f * k) (F ++ cs) := by
  refine hw.push ?_ ?_ ?_
  · rw [hF, hcs, hC, ← Nat.add_mul]; exact Nat.mul_le_mul_right k hcm
  · rw [hF, hC, ← Nat.add_mul, Nat.mul_mod_mul_right, hs]
  · rw [hcs, hC, hu, ← Nat.sub_mul]
    rcases Nat.le_total m (n - s) with h | h
    · rw [Nat.min_eq_left h, Nat.min_eq_left (Nat.mul_le_mul_right k h)]
    · rw [Nat.min_eq_right h, Nat.min_eq_right (Nat.mul_le_mul_right k h)]
theorem pop_wheel {C F C' : List Value} {f n k : Nat} (hw : Wheel C (f * k) F) (hk : k ≤ F.length) (hC : C.length = n * k) (hl : C'.length = C.length) (h : ∀ p, p < f * k ∨ f * k + k ≤ p → C'[p]? = C[p]?) : Wheel C' ((f + 1) % n * k) (F.drop k) := by
  have := hw.pop hk hl h
  rwa [hC, show f * k + k = (f + 1) * k by rw [Nat.add_mul, Nat.one_mul], Nat.mul_mod_mul_right] at this
theorem run_make_rowN {P : Program} (t e : TypeId) (i : TypeInfo) (z : Value) (ht : P.underlying t = some (.slice e)) (hi : P.info? e = some i) (hz : i.zero = some z)
    (kl kc : IntKind) (n c : Nat) (hnc : n ≤ c) (hbytes : i.bytes * c ≤ 281474976710656) (h63 : c ≤ 9223372036854775807) (w : World) :
    (Instr.makeSlice t (.int kl (n : Int)) (.int kc (c : Int))).run P w = .ok (.slice (some ⟨w.heap.size, 0, none⟩) n c) (w.alloc (.cells (madeCells z.cells (c * i.size)) e)) := by
  have hb : (i.bytes : Int) * (c : Int) ≤ 281474976710656 := by
    have h : ((i.bytes * c : Nat) : Int) ≤ 281474976710656 := by omega
    rwa [Int.natCast_mul] at h
  have hr := run_make (P := P) w t e i z ht hi hz kl kc n c (by omega) (by omega) hb (by omega)
  simp only [Int.toNat_natCast] at hr
  exact hr
end Go.Proofs.Ytcjohlbglbcglaa
