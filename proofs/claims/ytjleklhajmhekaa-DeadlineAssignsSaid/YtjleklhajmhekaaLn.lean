/- Exits in two queues, as plain lists; slices of integers as sources of an append; rows of one's own behind a change. (After stages 4 and 12.) -/
import Derived.Test.YtjleklhajmhekaaInts
import Derived.Test.YtjleklhajmhekaaStructs
import Derived.Test.YtjleklhajmhekaaAppend
namespace Go.Proofs.Ytjleklhajmhekaa
open Go Go.RowKit
set_option linter.unusedVariables false
set_option linter.unusedSimpArgs false
set_option maxRecDepth 100000

/-- The queue of a class; how many it may still take; what is ahead of a new exit. -/
def laneL (F V : List Int) (c : Int) : List Int := if c = 0 then F else if c = 1 then V else []
def freeN (n : Nat) (F V : List Int) (c : Int) : Nat := if c = 0 then n - F.length else if c = 1 then n - V.length else 0
def aheadL (F V : List Int) (c : Int) : List Int := if c = 0 then F else if c = 1 then F ++ V else []
/-- Push: the answer, and both queues behind it. -/
def errP (n : Nat) (F V : List Int) (c : Int) : Int := if c = 0 then (if F.length < n then 0 else 6) else if c = 1 then (if V.length < n then 0 else 6) else 11
def pushF (n : Nat) (F : List Int) (c x : Int) : List Int := if c = 0 ∧ F.length < n then F ++ [x] else F
def pushV (n : Nat) (V : List Int) (c x : Int) : List Int := if c = 1 ∧ V.length < n then V ++ [x] else V
/-- Pop and Head: the exit, its class, whether there is one; both queues behind Pop. -/
def hdI : List Int → List Int → Int
  | x :: _, _ => x
  | [], x :: _ => x
  | [], [] => 0
def hdC : List Int → List Int → Int
  | _ :: _, _ => 0
  | [], _ :: _ => 1
  | [], [] => 0
def hdB : List Int → List Int → Bool
  | _ :: _, _ => true
  | [], _ :: _ => true
  | [], [] => false
def popF : List Int → List Int
  | _ :: F => F
  | [] => []
def popV : List Int → List Int → List Int
  | _ :: _, V => V
  | [], _ :: V => V
  | [], [] => []

theorem add_block (a : Addr) (n : Nat) : (a.add n).block = a.block := by unfold Addr.add; split <;> rfl
def Src (w : World) (S : Nat → Prop) (a : Option Addr) (len k : Nat) (cs : List Value) : Prop :=
  cs.length = len * k ∧ (∀ v ∈ cs, v.oneCell' = true) ∧ (0 < len → ∃ ad : Addr, a = some ad ∧ ¬ S ad.block ∧ ∀ j v, cs[j]? = some v → w.cell? (ad.add j) = some v)
theorem Src.nil (w : World) (S : Nat → Prop) (a : Option Addr) (k : Nat) : Src w S a 0 k [] := ⟨by simp, by simp, fun h => by omega⟩
theorem Src.kept {w w' : World} {S T : Nat → Prop} {a : Option Addr} {len k : Nat} {cs : List Value} (h : Src w S a len k cs) (hk : Kept T w w') (hT : ∀ i, i < w.heap.size → T i → S i) : Src w' S a len k cs := by
  obtain ⟨h1, h2, h3⟩ := h
  refine ⟨h1, h2, fun hl => ?_⟩
  obtain ⟨ad, e, hn, hc⟩ := h3 hl
  refine ⟨ad, e, hn, fun j v hv => hk.cell (fun ht => ?_) (hc j v hv)⟩
  have hl := cell_lt (hc j v hv)
  rw [add_block] at ht hl
  exact hn (hT _ hl ht)
theorem Src.sub {w : World} {S T : Nat → Prop} {a : Option Addr} {len k : Nat} {cs : List Value} (h : Src w S a len k cs) (hT : ∀ i, T i → S i) : Src w T a len k cs := by
  obtain ⟨h1, h2, h3⟩ := h
  exact ⟨h1, h2, fun hl => by obtain ⟨ad, e, hn, hc⟩ := h3 hl; exact ⟨ad, e, fun ht => hn (hT _ ht), hc⟩⟩

section
section
variable {w : World} {S : Nat → Prop} {a : Option Addr} {L : List Int}
theorem IntsAt.src (h : IntsAt w S a L) : Src w S a L.length 1 (L.map (Value.int .i64)) := by
  refine ⟨by simp, fun v hv => ?_, fun hl => ?_⟩
  · obtain ⟨x, _, rfl⟩ := List.mem_map.1 hv
    rfl
  · obtain ⟨b, off, e, hn, hb, hc⟩ := h hl
    refine ⟨_, e, hn, fun j v hv => ?_⟩
    rw [List.getElem?_map] at hv
    have hj : j < L.length := by
      rcases Nat.lt_or_ge j L.length with h1 | h1
      · exact h1
      · rw [List.getElem?_eq_none h1] at hv; cases hv
    rw [add_plain, hc j hj]
    rw [List.getElem?_eq_getElem hj] at hv
    rw [List.getD_eq_getElem?_getD, List.getElem?_eq_getElem hj]
    exact hv
end
theorem owns_below {w w' : World} {base n size : Nat} {e : TypeId} {v : Value} {xs : List Value} (h : w.ownsRow base e size v n xs) (k : Below w.heap.size w w') : w'.ownsRow base e size v n xs := by
  obtain ⟨h1, h2⟩ := h
  refine ⟨h1, ?_⟩
  rcases h2 with h2 | ⟨g, cap, cur, rfl, h3, h4, h5⟩
  · exact .inl h2
  · exact .inr ⟨g, cap, cur, rfl, h3, Blk.below (w := w) h4 k (Blk.lt (w := w) h4), h5⟩
theorem owns_kept {w w' : World} {S : Nat → Prop} {base n size : Nat} {e : TypeId} {v : Value} {xs : List Value} (h : w.ownsRow base e size v n xs) (k : Kept S w w') (hn : ∀ g, v.ownBlock = some g → ¬ S g) : w'.ownsRow base e size v n xs := by
  obtain ⟨h1, h2⟩ := h
  refine ⟨h1, ?_⟩
  rcases h2 with h2 | ⟨g, cap, cur, rfl, h3, h4, h5⟩
  · exact .inl h2
  · exact .inr ⟨g, cap, cur, rfl, h3, Blk.kept (w := w) h4 k (hn g rfl), h5⟩
theorem kept_set (w : World) (b o : Nat) (u : Value) : Kept (fun i => i = b) w (w.setCell ⟨b, o, none⟩ u) := Kept.setCell (S := fun i => i = b) (Kept.refl _ _) (.inl rfl) _
theorem src_one (w : World) (x : Int) (T : Nat → Prop) (hT : ∀ i, T i → i < w.heap.size) : Src (w.alloc (.cells #[.int .i64 x] 3)) T (some ⟨w.heap.size, 0, none⟩) 1 1 [.int .i64 x] :=
  ⟨rfl, fun v hv => by simp at hv; subst hv; rfl, fun _ => ⟨_, rfl, fun hf => Nat.lt_irrefl _ (hT _ hf), fun j v hv => by
    rw [add_plain, Nat.zero_add, (Blk.new w 3 #[.int .i64 x]).cell]
    simpa using hv⟩⟩
end
end Go.Proofs.Ytjleklhajmhekaa
