/- The ring of buckets in memory: its own block, the buckets' block, each bucket's row. -/
import Derived.Test.YtinndmglacfofaaRow
namespace Go.Proofs.Ytinndmglacfofaa
open Go Go.RowKit Go.Deep
set_option linter.unusedVariables false
set_option linter.unusedSimpArgs false

/-- The entries of L in bucket j of n. -/
def bk (n : Nat) (L : List Ent) (j : Nat) : List Ent := L.filter fun e => e.1 % (n : Int) == (j : Int)
def OkE (L : List Ent) : Prop := ∀ e ∈ L, 0 ≤ e.1 ∧ e.1 ≤ 1099511627776
theorem bk_nil (n j : Nat) : bk n [] j = [] := rfl
theorem bk_len (n : Nat) (L : List Ent) (j : Nat) : (bk n L j).length ≤ L.length := List.length_filter_le _ _
theorem bk_append (n : Nat) (L M : List Ent) (j : Nat) : bk n (L ++ M) j = bk n L j ++ bk n M j := List.filter_append _ _
theorem bk_one {n j : Nat} {e : Ent} (h : e.1 % (n : Int) = (j : Int)) (i : Nat) : bk n [e] i = if i = j then [e] else [] := by
  unfold bk
  by_cases hi : i = j
  · subst hi; simp [h]
  · rw [if_neg hi]
    have : ¬ e.1 % (n : Int) = (i : Int) := by omega
    simp [this]
theorem bk_filter (n : Nat) (L : List Ent) (j : Nat) (p : Ent → Bool) : bk n (L.filter p) j = (bk n L j).filter p := by
  unfold bk
  rw [List.filter_filter, List.filter_filter]
  congr 1
  funext e
  rw [Bool.and_comm]
/-- The entries of an epoch are all in its bucket. -/
theorem bk_epoch {n j : Nat} {ep : Int} (h : ep % (n : Int) = (j : Int)) (L : List Ent) : (bk n L j).filter (fun e => e.1 == ep) = L.filter fun e => e.1 == ep := by
  unfold bk
  rw [List.filter_filter]
  congr 1
  funext e
  by_cases he : e.1 = ep
  · simp [he, h]
  · simp [he]
theorem bk_other {n i j : Nat} {ep : Int} (h : ep % (n : Int) = (j : Int)) (hi : i ≠ j) (L : List Ent) : (bk n L i).filter (fun e => !(e.1 == ep)) = bk n L i := by
  rw [List.filter_eq_self]
  intro e he
  have := (List.mem_filter.1 he).2
  simp only [beq_iff_eq] at this
  simp only [Bool.not_eq_true', beq_eq_false_iff_ne, ne_eq]
  rintro rfl
  omega

structure RingP (w : World) (b B n : Nat) (ss : List Value) (L : List Ent) : Prop where
  own : Blk w b 57 #[.slice (some ⟨B, 0, none⟩) n n]
  bks : Blk w B 43 ss.toArray
  len : ss.length = n
  pos : 1 ≤ n
  top : n ≤ 4096
  row : ∀ (j : Nat) (s : Value), ss[j]? = some s → w.ownsRow 0 46 2 s (bk n L j).length (flat (bk n L j))
  apart : ∀ (i j : Nat) (s t : Value) (q : Nat), i ≠ j → ss[i]? = some s → ss[j]? = some t → s.ownBlock = some q → t.ownBlock ≠ some q
  ok : OkE L
/-- A ring of n buckets that holds L; S are its blocks. -/
def Ring (w : World) (b : Nat) (S : Nat → Prop) (n : Nat) (L : List Ent) : Prop :=
  ∃ B ss, RingP w b B n ss L ∧ ∀ i, S i ↔ i = b ∨ i = B ∨ ∃ s : Value, s ∈ ss ∧ s.ownBlock = some i
theorem owns_slice {w : World} {s : Value} {n : Nat} {xs : List Value} (h : w.ownsRow 0 46 2 s n xs) : ∃ a cp, s = .slice a n cp ∧ n ≤ cp ∧ cp ≤ maxLen := by
  rcases h.2 with ⟨rfl, rfl⟩ | ⟨g, cp, cur, rfl, _, _, h1, h2, _⟩
  · exact ⟨none, 0, rfl, by omega, by unfold maxLen; omega⟩
  · exact ⟨_, cp, rfl, h1, h2⟩
theorem owns_same {w w' : World} {base e k : Nat} {s : Value} {n : Nat} {xs : List Value} (h : w.ownsRow base e k s n xs) (hb : ∀ i, s.ownBlock = some i → w'.heap[i]? = w.heap[i]?) : w'.ownsRow base e k s n xs := by
  refine ⟨h.1, h.2.imp id ?_⟩
  rintro ⟨g, cp, cur, rfl, h1, h2, h3⟩
  exact ⟨g, cp, cur, rfl, h1, (hb g rfl).trans h2, h3⟩
theorem owns_base {w : World} {base : Nat} {e : TypeId} {k : Nat} {v : Value} {n : Nat} {xs : List Value} (h : w.ownsRow base e k v n xs) {B : Nat} (hB : B ≤ base) : w.ownsRow B e k v n xs := by
  refine ⟨h.1, h.2.imp id ?_⟩
  rintro ⟨g, cp, cur, rfl, h1, h2⟩
  exact ⟨g, cp, cur, rfl, by omega, h2⟩
theorem owns_lst {w : World} {S : Nat → Prop} {l : List Ent} {a : Option Addr} {cp : Nat} (h : w.ownsRow 0 46 2 (.slice a l.length cp) l.length (flat l)) (hS : ∀ i, (Value.slice a l.length cp).ownBlock = some i → ¬ S i) : Lst w S a l := fun h0 => by
  rcases h.2 with ⟨h1, h2⟩ | ⟨g, cp', cur, h1, _, h3, _⟩
  · omega
  · injection h1 with h1 _ _
    subst h1
    refine ⟨g, 0, rfl, hS g rfl, (Array.getElem?_eq_some_iff.1 h3).1, fun i v hi => ?_⟩
    exact range_of_flat (fun j u hu => by
      have := h.cells rfl j u hu
      rwa [add_plain] at this) hi
/-- The row's block bears its element's type. -/
theorem owns_tag {w : World} {base e k : Nat} {s : Value} {n : Nat} {xs : List Value} {q t : Nat} {cs : Array Value} (h : w.ownsRow base e k s n xs) (hq : s.ownBlock = some q) (hb : Blk w q t cs) : t = e := by
  rcases h.2 with ⟨rfl, _⟩ | ⟨g, cp, cur, rfl, _, h3, _⟩
  · cases hq
  · injection hq with hq
    have hq : g = q := hq
    subst hq
    unfold Blk at hb
    rw [h3] at hb
    injection hb with hb
    injection hb with _ hb
    exact hb.symm
section
variable {w w' : World} {b B n j : Nat} {s s' : Value} {ss : List Value} {L L' : List Ent} {S T : Nat → Prop}
theorem RingP.ne (h : RingP w b B n ss L) : b ≠ B := h.own.ne_ h.bks (by decide)
theorem RingP.not (h : RingP w b B n ss L) (hs : ss[j]? = some s) : s.ownBlock ≠ some b ∧ s.ownBlock ≠ some B :=
  ⟨fun e => absurd (owns_tag (h.row j s hs) e h.own) (by decide), fun e => absurd (owns_tag (h.row j s hs) e h.bks) (by decide)⟩
theorem RingP.get (h : RingP w b B n ss L) (hj : j < n) : ∃ s, ss[j]? = some s := ⟨_, List.getElem?_eq_getElem (by rw [h.len]; exact hj)⟩
theorem RingP.cells (h : RingP w b B n ss L) (hs : ss[j]? = some s) : w.cell? ⟨b, 0, none⟩ = some (.slice (some ⟨B, 0, none⟩) n n) ∧ w.cell? ⟨B, j, none⟩ = some s :=
  ⟨h.own.cell 0, by rw [h.bks.cell j, List.getElem?_toArray]; exact hs⟩
theorem RingP.same (h : RingP w b B n ss L) (hb : w'.heap[b]? = w.heap[b]?) (hB : w'.heap[B]? = w.heap[B]?) (hs : ∀ s : Value, s ∈ ss → ∀ i, s.ownBlock = some i → w'.heap[i]? = w.heap[i]?) : RingP w' b B n ss L :=
  ⟨hb.trans h.own, hB.trans h.bks, h.len, h.pos, h.top, fun j s hj => owns_same (h.row j s hj) (hs s (List.mem_of_getElem? hj)), h.apart, h.ok⟩
theorem RingP.lt (h : RingP w b B n ss L) (hs : s ∈ ss) {i : Nat} (hi : s.ownBlock = some i) : i < w.heap.size := by
  obtain ⟨j, hj⟩ := List.mem_iff_getElem?.1 hs
  exact ((h.row j s hj).lt i hi).2
/-- One bucket has been replaced. -/
theorem RingP.upd (h : RingP w b B n ss L) (hj : ss[j]? = some s) (hb : w'.heap[b]? = w.heap[b]?) (hB : Blk w' B 43 (ss.set j s').toArray)
    (hs : ∀ (i : Nat) (t : Value), i ≠ j → ss[i]? = some t → ∀ q, t.ownBlock = some q → w'.heap[q]? = w.heap[q]?) (hr : w'.ownsRow 0 46 2 s' (bk n L' j).length (flat (bk n L' j))) (ho : ∀ i, i ≠ j → bk n L' i = bk n L i)
    (hn : s'.ownBlock = s.ownBlock ∨ ∃ q, s'.ownBlock = some q ∧ w.heap.size ≤ q) (hok : OkE L') : RingP w' b B n (ss.set j s') L' := by
  have hjl := (List.getElem?_eq_some_iff.1 hj).1
  have pick : ∀ {i t}, (ss.set j s')[i]? = some t → (i = j ∧ t = s') ∨ (i ≠ j ∧ ss[i]? = some t) := fun {i t} hi => by
    by_cases e : j = i
    · subst e
      rw [List.getElem?_set_self hjl] at hi
      exact .inl ⟨rfl, (Option.some.inj hi).symm⟩
    · rw [List.getElem?_set_ne e] at hi
      exact .inr ⟨fun h => e h.symm, hi⟩
  refine ⟨hb.trans h.own, hB, by rw [List.length_set]; exact h.len, h.pos, h.top, fun i t hi => ?_, fun i k x y q hik hx hy hq => ?_, hok⟩
  · rcases pick hi with ⟨rfl, rfl⟩ | ⟨hne, hi⟩
    · exact hr
    · rw [ho i hne]
      exact owns_same (h.row i t hi) (hs i t hne hi)
  · rcases pick hx with ⟨rfl, rfl⟩ | ⟨hne, hx2⟩
    · rcases pick hy with ⟨rfl, rfl⟩ | ⟨hne2, hy⟩
      · exact absurd rfl hik
      · rcases hn with hn | ⟨q', hn, hl⟩
        · exact h.apart _ _ _ _ q hik hj hy (by rw [← hn]; exact hq)
        · intro e
          have := h.lt (List.mem_of_getElem? hy) e
          rw [hn] at hq
          injection hq with hq
          omega
    · rcases pick hy with ⟨rfl, rfl⟩ | ⟨hne2, hy⟩
      · rcases hn with hn | ⟨q', hn, hl⟩
        · intro e
          exact h.apart _ _ _ _ q hik hx2 hj hq (by rw [← hn]; exact e)
        · intro e
          have := h.lt (List.mem_of_getElem? hx2) hq
          rw [hn] at e
          injection e with e
          omega
      · exact h.apart _ _ _ _ q hik hx2 hy hq
theorem Ring.lt (h : Ring w b S n L) : ∀ i, S i → i < w.heap.size := fun i hi => by
  obtain ⟨B, ss, hp, hS⟩ := h
  rcases (hS i).1 hi with rfl | rfl | ⟨s, hs, hq⟩
  · exact hp.own.lt
  · exact hp.bks.lt
  · exact hp.lt hs hq
theorem Ring.same (h : Ring w b S n L) (hb : ∀ i, S i → w'.heap[i]? = w.heap[i]?) : Ring w' b S n L := by
  obtain ⟨B, ss, hp, hS⟩ := h
  exact ⟨B, ss, hp.same (hb b ((hS b).2 (.inl rfl))) (hb B ((hS B).2 (.inr (.inl rfl)))) (fun s hs i hi => hb i ((hS i).2 (.inr (.inr ⟨s, hs, hi⟩)))), hS⟩
theorem Ring.kept (h : Ring w b S n L) (k : Kept T w w') (hT : ∀ i, S i → ¬ T i) : Ring w' b S n L := h.same fun i hi => k.block i (h.lt i hi) (hT i hi)
theorem Ring.below (h : Ring w b S n L) (k : Below w.heap.size w w') : Ring w' b S n L := h.same fun i hi => k.block i (h.lt i hi)
theorem Ring.alloc (h : Ring w b S n L) (o : Obj) : Ring (w.alloc o) b S n L := h.below ((Below.refl _ _).alloc (Nat.le_refl _) o)
theorem Ring.drewN (h : Ring w b S n L) (m : Nat) : Ring (w.drewN m) b S n L := h.same fun _ _ => rfl
theorem Ring.drew (h : Ring w b S n L) : Ring w.drew b S n L := h.same fun _ _ => rfl
theorem Ring.fits (h : Ring w b S n L) : 1 ≤ n ∧ n ≤ 4096 ∧ OkE L := by
  obtain ⟨B, ss, hp, hS⟩ := h
  exact ⟨hp.pos, hp.top, hp.ok⟩
theorem Ring.self (h : Ring w b S n L) : S b := by
  obtain ⟨B, ss, hp, hS⟩ := h
  exact (hS b).2 (.inl rfl)
end
end Go.Proofs.Ytinndmglacfofaa
