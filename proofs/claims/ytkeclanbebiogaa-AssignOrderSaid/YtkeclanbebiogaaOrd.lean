/- Two arrays of two lists each, beside a law's lanes and meter. -/
import Derived.Test.YtkeclanbebiogaaFull
namespace Go.Proofs.Ytkeclanbebiogaa
open Go Go.RowKit
set_option linter.unusedVariables false
set_option linter.unusedSimpArgs false
set_option maxRecDepth 100000

def upd {α : Type} (f : Nat → α) (m : Nat) (v : α) (j : Nat) : α := if j = m then v else f j
theorem upd_at {α : Type} (f : Nat → α) (m : Nat) (v : α) : upd f m v m = v := by simp [upd]
theorem upd_ne {α : Type} (f : Nat → α) {m j : Nat} (v : α) (h : j ≠ m) : upd f m v j = f j := by simp [upd, h]
/-- The arrays in bp and bq hold four rows of the law's own; none of it lies in Z. -/
def Held (w : World) (Z : Nat → Prop) (L bp bq : Nat) (val : Nat → Value) (lst : Nat → List Int) : Prop :=
  Blk w bp 55 #[val 0, val 1] ∧ Blk w bq 55 #[val 2, val 3] ∧ L ≤ bp ∧ bp < bq ∧ ¬ Z bp ∧ ¬ Z bq ∧
  (∀ j, w.ownsRow (bq + 1) 3 1 (val j) (lst j).length ((lst j).map (Value.int .i64))) ∧ (∀ j i, (val j).ownBlock = some i → ¬ Z i) ∧
  (∀ j k i, j ≠ k → (val j).ownBlock = some i → (val k).ownBlock ≠ some i)
def arrOf (bp bq m : Nat) : Addr := if m < 2 then ⟨bp, m, none⟩ else ⟨bq, m - 2, none⟩
section
variable {w w' w1 w2 : World} {Z Z' T : Nat → Prop} {L bp bq m : Nat} {val : Nat → Value} {lst : Nat → List Int} {v : Value} {Ls : List Int}
theorem Held.kept (h : Held w Z L bp bq val lst) (k : Kept T w w') (h1 : ¬ T bp) (h2 : ¬ T bq) (h3 : ∀ j i, (val j).ownBlock = some i → ¬ T i) : Held w' Z L bp bq val lst := by
  obtain ⟨a, b, c, d, e, f, g, i⟩ := h
  exact ⟨a.kept k h1, b.kept k h2, c, d, e, f, fun j => owns_kept (g j) k (h3 j), i⟩
theorem Held.below (h : Held w Z L bp bq val lst) (k : Below w.heap.size w w') : Held w' Z L bp bq val lst := h.kept (Kept.of_below (S := fun _ => False) k) id id (fun _ _ _ => id)
theorem Held.other (h : Held w Z L bp bq val lst) (hZ : ∀ i, i < w.heap.size → Z' i → Z i) : Held w Z' L bp bq val lst := by
  have ha := h.1.lt
  have hb := h.2.1.lt
  obtain ⟨a, b, c, d, e, f, r, s, t⟩ := h
  exact ⟨a, b, c, d, fun z => e (hZ _ ha z), fun z => f (hZ _ hb z), r, fun j i hi z => s j i hi (hZ i ((r j).lt i hi).2 z), t⟩
theorem Held.cells (h : Held w Z L bp bq val lst) : w.cell? ⟨bp, 0, none⟩ = some (val 0) ∧ w.cell? ⟨bp, 1, none⟩ = some (val 1) ∧ w.cell? ⟨bq, 0, none⟩ = some (val 2) ∧ w.cell? ⟨bq, 1, none⟩ = some (val 3) ∧
    w.frozen? ⟨bp, 0, none⟩ = false ∧ w.frozen? ⟨bp, 1, none⟩ = false ∧ w.frozen? ⟨bq, 0, none⟩ = false ∧ w.frozen? ⟨bq, 1, none⟩ = false :=
  ⟨h.1.cell 0, h.1.cell 1, h.2.1.cell 0, h.2.1.cell 1, h.1.frozen 0, h.1.frozen 1, h.2.1.frozen 0, h.2.1.frozen 1⟩
/-- Behind the append the array's cell is there still, to be stored to. -/
theorem Held.ready (h : Held w Z L bp bq val lst) (hm : m < 4) (k1 : Kept (fun _ => False) w w1) (hg : w1.grownBy w2 (val m).ownBlock) : w2.cell? (arrOf bp bq m) = some (val m) ∧ w2.frozen? (arrOf bp bq m) = false := by
  have hr := (h.2.2.2.2.2.2.1 m).lt
  have hlt := h.2.2.2.1
  have k : Kept (fun i => some i = (val m).ownBlock) w w2 := (k1.more (fun _ _ h => h.elim)).trans (Kept.of_grown (S := fun i => some i = (val m).ownBlock) hg (fun i hi => hi)) (fun _ _ h => h)
  have B1 := h.1.kept k (fun e => by have := (hr _ (Eq.symm e)).1; omega)
  have B2 := h.2.1.kept k (fun e => by have := (hr _ (Eq.symm e)).1; omega)
  have hc : m = 0 ∨ m = 1 ∨ m = 2 ∨ m = 3 := by omega
  rcases hc with rfl | rfl | rfl | rfl
  · exact ⟨B1.cell 0, B1.frozen 0⟩
  · exact ⟨B1.cell 1, B1.frozen 1⟩
  · exact ⟨B2.cell 0, B2.frozen 0⟩
  · exact ⟨B2.cell 1, B2.frozen 1⟩
/-- One row has grown; its array's cell holds it. -/
theorem Held.app (h : Held w Z L bp bq val lst) (hm : m < 4) (hS : ∀ i, Z i → i < w.heap.size) (k1 : Kept (fun _ => False) w w1) (ho : w2.ownsRow (bq + 1) 3 1 v (lst m ++ Ls).length ((lst m ++ Ls).map (Value.int .i64))) (hg : w1.grownBy w2 (val m).ownBlock)
    (ha : v.ownBlock = (val m).ownBlock ∨ v.ownBlock = some w1.heap.size) :
    Held (w2.setCell (arrOf bp bq m) v) Z L bp bq (upd val m v) (upd lst m (lst m ++ Ls)) ∧ Kept (fun i => some i = (val m).ownBlock ∨ i = bp ∨ i = bq) w (w2.setCell (arrOf bp bq m) v) := by
  obtain ⟨h1, h2, h3, h4, h5, h6, h7, h8, h9⟩ := h
  have hz := k1.size
  have k2 : Kept (fun i => some i = (val m).ownBlock) w w2 := (k1.more (fun _ _ h => h.elim)).trans (Kept.of_grown (S := fun i => some i = (val m).ownBlock) hg (fun i hi => hi)) (fun _ _ h => h)
  have hbl : ∀ j i, (val j).ownBlock = some i → bq + 1 ≤ i ∧ i < w.heap.size := fun j i hi => (h7 j).lt i hi
  have hbq := h2.lt
  have B1 := h1.kept k2 (fun e => by have := (hbl m _ (Eq.symm e)).1; omega)
  have B2 := h2.kept k2 (fun e => by have := (hbl m _ (Eq.symm e)).1; omega)
  have rows : ∀ j, w2.ownsRow (bq + 1) 3 1 (upd val m v j) (upd lst m (lst m ++ Ls) j).length ((upd lst m (lst m ++ Ls) j).map (Value.int .i64)) := fun j => by
    by_cases e : j = m
    · subst e
      rw [upd_at, upd_at]
      exact ho
    · rw [upd_ne _ _ e, upd_ne _ _ e]
      exact owns_kept (h7 j) k2 (fun g hg e' => h9 j m g e hg (Eq.symm e'))
  have noS : ∀ j i, (upd val m v j).ownBlock = some i → ¬ Z i := fun j i hi => by
    by_cases e : j = m
    · subst e
      rw [upd_at] at hi
      rcases ha with ha | ha
      · rw [ha] at hi; exact h8 j i hi
      · rw [ha] at hi
        injection hi with hi
        exact fun hs => by have := hS i hs; omega
    · rw [upd_ne _ _ e] at hi
      exact h8 j i hi
  have apart : ∀ j k i, j ≠ k → (upd val m v j).ownBlock = some i → (upd val m v k).ownBlock ≠ some i := fun j k i hjk hi hk => by
    by_cases e : j = m
    · subst e
      rw [upd_at] at hi
      rw [upd_ne _ _ (Ne.symm hjk)] at hk
      rcases ha with ha | ha
      · rw [ha] at hi; exact h9 j k i hjk hi hk
      · rw [ha] at hi
        injection hi with hi
        have := (hbl k i hk).2
        omega
    · rw [upd_ne _ _ e] at hi
      by_cases e2 : k = m
      · subst e2
        rw [upd_at] at hk
        rcases ha with ha | ha
        · rw [ha] at hk; exact h9 j k i hjk hi hk
        · rw [ha] at hk
          injection hk with hk
          have := (hbl j i hi).2
          omega
      · rw [upd_ne _ _ e2] at hk
        exact h9 j k i hjk hi hk
  have keep : ∀ b o, b = bp ∨ b = bq → Kept (fun i => some i = (val m).ownBlock ∨ i = bp ∨ i = bq) w (w2.setCell ⟨b, o, none⟩ v) := fun b o hb =>
    (k2.more (T := fun i => some i = (val m).ownBlock ∨ i = bp ∨ i = bq) (fun i _ e => .inl e)).trans (kept_set w2 b o v) (fun i _ e => by
      have e : i = b := e
      subst e
      exact .inr hb)
  have rows2 : ∀ b o, b ≤ bq → ∀ j, (w2.setCell ⟨b, o, none⟩ v).ownsRow (bq + 1) 3 1 (upd val m v j) (upd lst m (lst m ++ Ls) j).length ((upd lst m (lst m ++ Ls) j).map (Value.int .i64)) := fun b o hb j =>
    owns_kept (rows j) (kept_set w2 b o v) (fun g hg e => by have := ((rows j).lt g hg).1; have : g = b := e; omega)
  have hc : m = 0 ∨ m = 1 ∨ m = 2 ∨ m = 3 := by omega
  rcases hc with rfl | rfl | rfl | rfl
  · exact ⟨⟨B1.set_ 0 v, B2.far (by show bq ≠ bp; omega) v, h3, h4, h5, h6, rows2 _ _ (by omega), noS, apart⟩, keep _ _ (.inl rfl)⟩
  · exact ⟨⟨B1.set_ 1 v, B2.far (by show bq ≠ bp; omega) v, h3, h4, h5, h6, rows2 _ _ (by omega), noS, apart⟩, keep _ _ (.inl rfl)⟩
  · exact ⟨⟨B1.far (by show bp ≠ bq; omega) v, B2.set_ 0 v, h3, h4, h5, h6, rows2 _ _ (Nat.le_refl _), noS, apart⟩, keep _ _ (.inr rfl)⟩
  · exact ⟨⟨B1.far (by show bp ≠ bq; omega) v, B2.set_ 1 v, h3, h4, h5, h6, rows2 _ _ (Nat.le_refl _), noS, apart⟩, keep _ _ (.inr rfl)⟩
end

def XO (m bp bq : Nat) (val : Nat → Value) (i : Nat) : Prop := i = m ∨ i = bp ∨ i = bq ∨ ∃ j, (val j).ownBlock = some i
/-- The law's lanes, its meter, the reference's lanes and the arrays. -/
def Ord (w0 w : World) (b m d : Nat) (S : Nat → Prop) (F V RF RV : List Int) (B Sp : Int) (bp bq : Nat) (val : Nat → Value) (lst : Nat → List Int) : Prop :=
  Law w0 w b m d 500 S (XO m bp bq val) F V RF RV B Sp ∧ Held w (fun i => S i ∨ i = d ∨ i = m) w0.heap.size bp bq val lst
section
variable {w0 w w' w1 w2 : World} {b m d bp bq j nn : Nat} {S S' X X' T : Nat → Prop} {F V RF RV F' V' L Ls : List Int} {B Sp B' Sp' x ep : Int} {val : Nat → Value} {lst : Nat → List Int} {v : Value} {wa : Option Addr} {cap : Nat}
/-- The law has written to blocks of its own. -/
theorem Law.write (h : Law w0 w b m d nn S X F V RF RV B Sp) (k : Kept T w w') (hT : ∀ i, i < w.heap.size → T i → X i) (hTl : ∀ i, T i → w0.heap.size ≤ i) (hTS : ∀ i, S i → ¬ T i) (hTm : ¬ T m) (hTd : ¬ T d) (hX : ∀ i, X' i → X i ∨ (w.heap.size ≤ i ∧ i < w'.heap.size)) (hm : X' m) : Law w0 w' b m d nn S X' F V RF RV B Sp := by
  have hd := h.2.1.lt
  have hl := h.1.1.lt
  obtain ⟨h1, h2, h3, h4, h5, h6, h7, h8⟩ := h
  have r1 : RefAt w (fun i => S i ∨ X i ∨ X' i) d nn RF RV := h2.other (fun i hi e => e.elim .inl (fun e => e.elim .inr (fun e => (hX i e).elim .inr (fun e => by omega))))
  refine ⟨h1.kept k hTS hTm hTl, (r1.kept k hTd (fun i hi e => .inr (.inl (hT i hi e)))).other (fun i _ e => e.elim .inl (fun e => .inr (.inr e))), h3, fun e => (hX d e).elim h4 (fun e => by omega), hm, h6, fun i hi => ?_, fun i hi e => (hX i e).elim (h8 i hi) (fun e => by have := hl i hi; omega)⟩
  rcases hX i hi with e | e
  · exact ⟨(h7 i e).1, Nat.lt_of_lt_of_le (h7 i e).2 k.size⟩
  · exact ⟨by have := h1.2.2.2.2.2.size; omega, e.2⟩
theorem Ord.below (h : Ord w0 w b m d S F V RF RV B Sp bp bq val lst) (k : Below w.heap.size w w') : Ord w0 w' b m d S F V RF RV B Sp bp bq val lst := ⟨h.1.below k, h.2.below k⟩
theorem Ord.alloc (h : Ord w0 w b m d S F V RF RV B Sp bp bq val lst) (o : Obj) : Ord w0 (w.alloc o) b m d S F V RF RV B Sp bp bq val lst := h.below ((Below.refl _ _).alloc (Nat.le_refl _) o)
theorem Ord.drewN (h : Ord w0 w b m d S F V RF RV B Sp bp bq val lst) (q : Nat) : Ord w0 (w.drewN q) b m d S F V RF RV B Sp bp bq val lst := h.below (below_drewN (Below.refl _ _) q)
theorem Ord.bound (h : Ord w0 w b m d S F V RF RV B Sp bp bq val lst) (i : Nat) (hi : w.heap.size ≤ i) (j : Nat) : (val j).ownBlock ≠ some i := fun e => by have := ((h.2.2.2.2.2.2.2.1 j).lt i e).2; omega
theorem Ord.row (h : Ord w0 w b m d S F V RF RV B Sp bp bq val lst) (j : Nat) : w.ownsRow (bq + 1) 3 1 (val j) (lst j).length ((lst j).map (Value.int .i64)) := h.2.2.2.2.2.2.2.1 j
theorem Ord.lt (h : Ord w0 w b m d S F V RF RV B Sp bp bq val lst) : bq + 1 ≤ w.heap.size := h.2.2.1.lt
theorem Ord.push (h : Ord w0 w b m d S F V RF RV B Sp bp bq val lst) (r : Rnd) (hr : RndAt w0 (fun _ => False) r) :
    Calls Try.prog 13 #[.pointer (some ⟨b, 0, none⟩), .pointer (some ⟨d, 0, none⟩), .agg (cellsR r)] w fun e w' => e = .returned (.tuple #[]) ∧ ∃ S', Hid (Ord w0 w' b m d S' (pAll 500 F r.F) (pAll 500 V r.V) (pAll 500 RF r.F) (pAll 500 RV r.V) B Sp bp bq val lst) ∧ Hid (Kept (fun i => S i ∨ i = d) w w') ∧ Hid (∀ i, S' i → S i ∨ w.heap.size ≤ i) := by
  obtain ⟨h1, h2⟩ := h
  refine (push_round r h1 hr).mono ?_
  rintro e w' ⟨he, S', l, k, g⟩
  have hz : ∀ i, (S i ∨ i = d) → (S i ∨ i = d ∨ i = m) := fun i e => e.elim .inl (fun e => .inr (.inl e))
  have o1 := h2.other (Z' := fun i => (S i ∨ i = d ∨ i = m) ∨ S' i) (fun i hi e => e.elim id (fun e => (g.out i e).elim .inl (fun e => by omega)))
  have o2 := o1.kept k.out (fun e => h2.2.2.2.2.1 (hz _ e)) (fun e => h2.2.2.2.2.2.1 (hz _ e)) (fun j i hi e => h2.2.2.2.2.2.2.2.1 j i hi (hz _ e))
  exact ⟨he, S', Lib.hid ⟨l.out, o2.other (fun i _ e => e.elim (fun e => .inr e) (fun e => .inl (.inr e)))⟩, k, g⟩
/-- A boundary. -/
def OrdStep (w0 w : World) (b m d : Nat) (S : Nat → Prop) (RF RV : List Int) (bp bq : Nat) (val : Nat → Value) (lst : Nat → List Int) (ep : Int) (r : List (Int × Int) × List Int × List Int × Int) (sp : Int) (e : Ending) (w' : World) : Prop :=
  ∃ a c S', e = .returned (.slice a r.1.length c) ∧ Hid (Ord w0 w' b m d S' r.2.1 r.2.2.1 RF RV (balOf r) sp bp bq val lst) ∧ Hid (∀ i, S' i → S i ∨ w.heap.size ≤ i) ∧ Hid (AAt w' (fun i => i < w.heap.size ∨ S' i) a ep r.1) ∧ Hid (Kept (fun i => i = m ∨ S i) w w')
theorem Ord.step (h : Ord w0 w b m d S F V RF RV B Sp bp bq val lst) (hu : UAt w (fun i => w0.heap.size ≤ i) wa L) (hL : L.length ≤ 9223372036854775807) (hA : Amts L) (hx : 0 ≤ x) (he0 : 0 ≤ ep) (he1 : ep ≤ 1099511627776) :
    Calls Try.prog 14 #[.int .i64 ep, .pointer (some ⟨b, 0, none⟩), .pointer (some ⟨m, 0, none⟩), .int .u64 x, .slice wa L.length cap] w (OrdStep w0 w b m d S RF RV bp bq val lst (ep + 1) (stp (wOf L) F V B x) (sumW (wOf L) (stp (wOf L) F V B x).1)) := by
  obtain ⟨h1, h2⟩ := h
  refine (h1.step hu hL hA hx he0 he1).mono ?_
  rintro e w' ⟨a, c, S', he, l, g, aa, k⟩
  have hz : ∀ i, (i = m ∨ S i) → (S i ∨ i = d ∨ i = m) := fun i e => e.elim (fun e => .inr (.inr e)) .inl
  have o1 := h2.other (Z' := fun i => (S i ∨ i = d ∨ i = m) ∨ S' i) (fun i hi e => e.elim id (fun e => (g.out i e).elim .inl (fun e => by omega)))
  have o2 := o1.kept k.out (fun e => h2.2.2.2.2.1 (hz _ e)) (fun e => h2.2.2.2.2.2.1 (hz _ e)) (fun j i hi e => h2.2.2.2.2.2.2.2.1 j i hi (hz _ e))
  exact ⟨a, c, S', he, Lib.hid ⟨l.out, o2.other (fun i _ e => e.elim (fun e => .inr e) (fun e => .inl (.inr e)))⟩, g, aa, k⟩
/-- A row has grown. -/
theorem Ord.app (h : Ord w0 w b m d S F V RF RV B Sp bp bq val lst) (hj : j < 4) (k1 : Kept (fun _ => False) w w1) (ho : w2.ownsRow (bq + 1) 3 1 v (lst j ++ Ls).length ((lst j ++ Ls).map (Value.int .i64))) (hg : w1.grownBy w2 (val j).ownBlock)
    (ha : v.ownBlock = (val j).ownBlock ∨ v.ownBlock = some w1.heap.size) :
    Ord w0 (w2.setCell (arrOf bp bq j) v) b m d S F V RF RV B Sp bp bq (upd val j v) (upd lst j (lst j ++ Ls)) ∧ Kept (XO m bp bq val) w (w2.setCell (arrOf bp bq j) v) ∧ ∀ i, i < w.heap.size → XO m bp bq (upd val j v) i → XO m bp bq val i := by
  have hsz := k1.size
  obtain ⟨h1, h2⟩ := h
  obtain ⟨e1, e2⟩ := h2.app hj (fun i e => e.elim (h1.1.1.lt i) (fun e => e.elim (fun e => by have := h1.2.1.lt; omega) (fun e => by have := h1.1.mlt; omega))) k1 ho hg ha
  have hX : ∀ i, (some i = (val j).ownBlock ∨ i = bp ∨ i = bq) → XO m bp bq val i := fun i e => e.elim (fun e => .inr (.inr (.inr ⟨j, Eq.symm e⟩))) (fun e => e.elim (fun e => .inr (.inl e)) (fun e => .inr (.inr (.inl e))))
  have hZ : ∀ i, (some i = (val j).ownBlock ∨ i = bp ∨ i = bq) → ¬ (S i ∨ i = d ∨ i = m) := fun i e => e.elim (fun e => h2.2.2.2.2.2.2.2.1 j i (Eq.symm e)) (fun e => e.elim (fun e => e ▸ h2.2.2.2.2.1) (fun e => e ▸ h2.2.2.2.2.2.1))
  have hnew : ∀ i, v.ownBlock = some i → i < (w2.setCell (arrOf bp bq j) v).heap.size := fun i hi => by
    have := (ho.lt i hi).2
    simpa [World.setCell] using this
  have hXX : ∀ i, XO m bp bq (upd val j v) i → XO m bp bq val i ∨ (w.heap.size ≤ i ∧ i < (w2.setCell (arrOf bp bq j) v).heap.size) := fun i e => by
    rcases e with e | e | e | ⟨k, e⟩
    · exact .inl (.inl e)
    · exact .inl (.inr (.inl e))
    · exact .inl (.inr (.inr (.inl e)))
    · by_cases hk : k = j
      · subst hk
        rw [upd_at] at e
        rcases ha with ha | ha
        · exact .inl (.inr (.inr (.inr ⟨k, ha ▸ e⟩)))
        · have hi := hnew i e
          rw [ha] at e
          injection e with e
          exact .inr ⟨by omega, hi⟩
      · rw [upd_ne _ _ hk] at e
        exact .inl (.inr (.inr (.inr ⟨k, e⟩)))
  exact ⟨⟨h1.write e2 (fun i _ e => hX i e) (fun i e => (h1.2.2.2.2.2.2.1 i (hX i e)).1) (fun i hi e => hZ i e (.inl hi)) (fun e => hZ m e (.inr (.inr rfl))) (fun e => hZ d e (.inr (.inl rfl))) hXX (.inl rfl), e1⟩, e2.more (fun i _ e => hX i e), fun i hi e => (hXX i e).elim id (fun e => by omega)⟩
theorem Ord.ready (h : Ord w0 w b m d S F V RF RV B Sp bp bq val lst) (hj : j < 4) (k1 : Kept (fun _ => False) w w1) (hg : w1.grownBy w2 (val j).ownBlock) : w2.cell? (arrOf bp bq j) = some (val j) ∧ w2.frozen? (arrOf bp bq j) = false := h.2.ready hj k1 hg
theorem Ord.box (h : Ord w0 w b m d S F V RF RV B Sp bp bq val lst) (i : Nat) (hi : w.heap.size ≤ i) : ¬ XO m bp bq val i := fun e => by
  have h1 := h.1.1.mlt
  have h2 := h.2.1.lt
  have h3 := h.2.2.1.lt
  rcases e with e | e | e | ⟨j, e⟩
  · omega
  · omega
  · omega
  · exact h.bound i hi j e
end
/-- The arrays, just made. -/
theorem ord_new {w0 w : World} {b m d : Nat} {S : Nat → Prop} {F V RF RV : List Int} {B Sp : Int} (h : Law w0 w b m d 500 S (fun i => i = m) F V RF RV B Sp) :
    Ord w0 ((w.alloc (.cells #[.slice none 0 0, .slice none 0 0] 55)).alloc (.cells #[.slice none 0 0, .slice none 0 0] 55)) b m d S F V RF RV B Sp w.heap.size (w.heap.size + 1) (fun _ => .slice none 0 0) (fun _ => []) := by
  have hm := h.1.mlt
  have hl := h.1.1.lt
  have hd := h.2.1.lt
  refine ⟨h.more (((Below.refl _ _).alloc (Nat.le_refl _) _).alloc (by simp) _) (fun i e => ?_) (.inl rfl), (Blk.new w _ _).alloc _, ?_, h.bel.size, by omega, ?_, ?_, fun j => World.ownsRow_nil _ _ _ _, (fun j i hi => by cases hi), (fun j k i _ hi => by cases hi)⟩
  · rcases e with e | e | e | ⟨j, e⟩
    · exact .inl e
    · exact .inr (by simp; omega)
    · exact .inr (by simp; omega)
    · cases e
  · have := Blk.new (w.alloc (.cells #[.slice none 0 0, .slice none 0 0] 55)) 55 #[.slice none 0 0, .slice none 0 0]
    simpa using this
  · intro e
    rcases e with e | e | e
    · exact Nat.lt_irrefl _ (hl _ e)
    · omega
    · omega
  · intro e
    rcases e with e | e | e
    · have := hl _ e; omega
    · omega
    · omega
/-- What was assigned of a class. -/
def fl (c : Int) (l : List (Int × Int)) : List Int := (l.filter (·.2 == c)).map (·.1)
theorem fl_len (c : Int) (l : List (Int × Int)) : (fl c l).length ≤ l.length := by simpa [fl] using List.length_filter_le _ l
theorem fl_succ {l : List (Int × Int)} {i : Nat} {x c : Int} (h : l[i]? = some (x, c)) (e : Int) : fl e (l.take (i + 1)) = if c = e then fl e (l.take i) ++ [x] else fl e (l.take i) := by
  have hi := (List.getElem?_eq_some_iff.1 h).1
  have hx : l[i] = (x, c) := (List.getElem?_eq_some_iff.1 h).2
  rw [fl, fl, List.take_succ_eq_append_getElem hi, hx, List.filter_append, List.map_append]
  by_cases he : c = e
  · subst he; simp
  · rw [if_neg he]; simp [he]
/-- What was appended is what was assigned and what remains, as long as there was room. -/
def OInv (lst : Nat → List Int) (F V : List Int) : Prop := ((lst 0).length ≤ 500 → lst 0 = lst 2 ++ F) ∧ ((lst 1).length ≤ 500 → lst 1 = lst 3 ++ V)
theorem OInv.push {lst lst' : Nat → List Int} {F V Fr Vr : List Int} (h : OInv lst F V) (h0 : lst' 0 = lst 0 ++ Fr) (h1 : lst' 1 = lst 1 ++ Vr) (h2 : lst' 2 = lst 2) (h3 : lst' 3 = lst 3) : OInv lst' (pAll 500 F Fr) (pAll 500 V Vr) := by
  constructor
  · intro hl
    rw [h0] at hl
    simp at hl
    have e := h.1 (by omega)
    have el := congrArg List.length e
    simp at el
    rw [h0, h2, pAll_room (by omega), e, List.append_assoc]
  · intro hl
    rw [h1] at hl
    simp at hl
    have e := h.2 (by omega)
    have el := congrArg List.length e
    simp at el
    rw [h1, h3, pAll_room (by omega), e, List.append_assoc]
theorem OInv.step {lst lst' : Nat → List Int} {om : Int → Int} {F V : List Int} {B x : Int} (h : OInv lst F V) (h0 : lst' 0 = lst 0) (h1 : lst' 1 = lst 1) (h2 : lst' 2 = lst 2 ++ fl 0 (stp om F V B x).1) (h3 : lst' 3 = lst 3 ++ fl 1 (stp om F V B x).1) : OInv lst' (stp om F V B x).2.1 (stp om F V B x).2.2.1 := by
  obtain ⟨e1, e2⟩ := asg_lists om F V (gr B x)
  change F = fl 0 (stp om F V B x).1 ++ (stp om F V B x).2.1 at e1
  change V = fl 1 (stp om F V B x).1 ++ (stp om F V B x).2.2.1 at e2
  generalize stp om F V B x = r at *
  constructor
  · intro hl
    rw [h0] at hl
    rw [h0, h2, h.1 hl, List.append_assoc, ← e1]
  · intro hl
    rw [h1] at hl
    rw [h1, h3, h.2 hl, List.append_assoc, ← e2]
end Go.Proofs.Ytkeclanbebiogaa
