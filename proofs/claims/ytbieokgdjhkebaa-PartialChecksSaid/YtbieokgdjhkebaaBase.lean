/- Rows of one's own; '==' of two validators; a validator stored over an element; slices.Clone (stage 7's words). -/
import Derived.Test.YtbieokgdjhkebaaVal
import Derived.Test.YtbieokgdjhkebaaKept
import Derived.Test.YtbieokgdjhkebaaAppend
import Derived.Test.YtbieokgdjhkebaaBuild
import Derived.Test.YtbieokgdjhkebaaTail
import Derived.Test.YtbieokgdjhkebaaFirst
import Derived.Laws.Tables
import Derived.Laws.Build
import Derived.Lib.SliceRun
namespace Go.Proofs.Ytbieokgdjhkebaa
open Go Go.RowKit Go.Deep
set_option linter.unusedVariables false
set_option linter.unusedSimpArgs false
set_option maxRecDepth 100000

theorem split_at {l : List Val} {i : Nat} {old : Val} (h : l[i]? = some old) : ∃ l1 l2, l = l1 ++ old :: l2 ∧ ∀ v, l.set i v = l1 ++ v :: l2 := by
  have hi := (List.getElem?_eq_some_iff.1 h).1
  have he := (List.getElem?_eq_some_iff.1 h).2
  refine ⟨l.take i, l.drop (i + 1), ?_, fun v => ?_⟩
  · rw [← he]
    rw [List.getElem_cons_drop, List.take_append_drop]
  · rw [List.set_eq_take_append_cons_drop, if_pos hi]
section
variable {w w' : World} {s : Value} {S T : Nat → Prop} {l : List Val}
theorem owns_slice {n : Nat} {xs : List Value} (h : w.ownsRow 0 33 7 s n xs) : ∃ a cp, s = .slice a n cp ∧ n ≤ cp ∧ cp ≤ maxLen := by
  rcases h.2 with ⟨rfl, rfl⟩ | ⟨g, cp, cur, rfl, _, _, h1, h2, _⟩
  · exact ⟨none, 0, rfl, by omega, by unfold maxLen; omega⟩
  · exact ⟨_, cp, rfl, h1, h2⟩
theorem owns_lst {l : List Val} {a : Option Addr} {cp : Nat} (h : w.ownsRow 0 33 7 (.slice a l.length cp) l.length (flat l)) (hS : ∀ i, (Value.slice a l.length cp).ownBlock = some i → ¬ S i) : Lst w S a l := fun h0 => by
  rcases h.2 with ⟨h1, h2⟩ | ⟨g, cp', cur, h1, _, h3, _⟩
  · omega
  · injection h1 with h1 _ _
    subst h1
    refine ⟨g, 0, rfl, hS g rfl, (Array.getElem?_eq_some_iff.1 h3).1, fun i v hi => ?_⟩
    exact range_of_flat (fun j u hu => by
      have := h.cells rfl j u hu
      rwa [add_plain] at this) hi
theorem owns_same {n : Nat} {xs : List Value} (h : w.ownsRow 0 33 7 s n xs) (hb : ∀ i, s.ownBlock = some i → w'.heap[i]? = w.heap[i]?) : w'.ownsRow 0 33 7 s n xs := by
  refine ⟨h.1, h.2.imp id ?_⟩
  rintro ⟨g, cp, cur, rfl, h1, h2, h3⟩
  exact ⟨g, cp, cur, rfl, h1, (hb g rfl).trans h2, h3⟩
end
theorem wpList_build_val {P : Program} {ops : Array Oper} {rest : List Oper} {o : Oper} {a : Act} {w : World} {Q : Exit → Act → World → Prop} (hg : o.guard = none) (t : TypeId) (parts : Array (Nat × Operand)) (ho : o.op = .build t parts) (v : Val)
    (hf : P.built t (parts.map fun (i, x) => (i, a.eval x)).toList = some (cellsV v)) (h : wpList P ops Q rest (a.put o.dst (.agg (cellsV v))) w) : wpList P ops Q (o :: rest) a w :=
  wpList_build hg t parts ho (by rw [hf]; rfl) (by rw [hf]; exact h)
theorem val_app : ∃ i, Try.prog.info? 33 = some i ∧ i.zero = some (.agg (cellsV val0)) ∧ i.size = 7 ∧ i.bytes = 56 := by
  have h : (Try.prog.info? 33).map (fun i => (i.zero, i.size, i.bytes)) = some (some (.agg (cellsV val0)), 7, 56) := by kernel_rfl
  cases hi : Try.prog.info? 33 with
  | none => rw [hi] at h; cases h
  | some i =>
    rw [hi] at h
    simp at h
    exact ⟨i, rfl, h.1, h.2.1, h.2.2⟩
theorem exec_eqv {a : Act} {dst : Option Tmp} {yt ty : TypeId} {x y : Operand} {pos : String} {after : Array Edge} {guard : Option (Nat × Bool)} {w : World} {p q : Val} {r : Bool} (hx : a.eval x = .agg (cellsV p)) (hy : a.eval y = .agg (cellsV q)) (hr : decide (p = q) = r) :
    (execOp a.eval { dst, op := .binOp .eql 33 x y yt, type := ty, pos, after, guard }).run Try.prog w = .ok (.value (.bool r)) w := by
  simp only [execOp, hx, hy, Sem.run_bind, run_eqGuard_agg w .eql _ x y _ _ Try.eqGuardType33, Result.andThen_ok, run_eql_struct, eq_val p q w, Sem.run_pure, hr]
theorem exec_nev {a : Act} {dst : Option Tmp} {yt ty : TypeId} {x y : Operand} {pos : String} {after : Array Edge} {guard : Option (Nat × Bool)} {w : World} {p q : Val} {r : Bool} (hx : a.eval x = .agg (cellsV p)) (hy : a.eval y = .agg (cellsV q)) (hr : (!decide (p = q)) = r) :
    (execOp a.eval { dst, op := .binOp .neq 33 x y yt, type := ty, pos, after, guard }).run Try.prog w = .ok (.value (.bool r)) w := by
  simp only [execOp, hx, hy, Sem.run_bind, run_eqGuard_agg w .neq _ x y _ _ Try.eqGuardType33, Result.andThen_ok, run_neq_struct, eq_val p q w, Sem.run_pure, hr]
section
variable {w a : World} {g t : Nat} {S : Nat → Prop}
theorem blk_setCells : ∀ (vs X Y Z : List Value) (w : World), Y.length = vs.length → Blk w g t (X ++ Y ++ Z).toArray → Blk (w.setCells g X.length vs) g t (X ++ vs ++ Z).toArray
  | [], X, Y, Z, w, hl, h => by
    obtain rfl := List.eq_nil_of_length_eq_zero hl
    exact h
  | v :: vs, X, [], Z, w, hl, h => by simp at hl
  | v :: vs, X, y :: Y, Z, w, hl, h => by
    have h1 := h.set_ X.length v
    have e : ((X ++ (y :: Y) ++ Z).toArray).setIfInBounds X.length v = ((X ++ [v]) ++ Y ++ Z).toArray := by
      simp [List.set_append]
    rw [e] at h1
    have := blk_setCells vs (X ++ [v]) Y Z _ (by simpa using hl) h1
    simpa [World.setCells] using this
theorem Kept.setCells (vs : List Value) : ∀ (o : Nat) (w : World), Kept S a w → S g ∨ a.heap.size ≤ g → Kept S a (w.setCells g o vs) := by
  induction vs with
  | nil => exact fun o w h _ => h
  | cons v vs ih => exact fun o w h hg => ih (o + 1) _ (h.setCell hg v) hg
theorem owns_set {l : List Val} {i cp : Nat} {old : Val} (h : w.ownsRow 0 33 7 (.slice (some ⟨g, 0, none⟩) l.length cp) l.length (flat l)) (hi : l[i]? = some old) (v : Val) :
    (w.setCells g (i * 7) v.row).ownsRow 0 33 7 (.slice (some ⟨g, 0, none⟩) l.length cp) l.length (flat (l.set i v)) ∧ w.there g (i * 7) 7 := by
  have hil := (List.getElem?_eq_some_iff.1 hi).1
  rcases h.2 with ⟨h1, _⟩ | ⟨g', cp', cur, h1, h2, h3, h4, h5, h6, h7⟩
  · cases h1
  · injection h1 with h1 _ hcp
    injection h1 with h1
    injection h1 with h1
    subst h1 hcp
    have el : l = l.take i ++ old :: l.drop (i + 1) := by
      have he := (List.getElem?_eq_some_iff.1 hi).2
      rw [← he, List.getElem_cons_drop, List.take_append_drop]
    have es : l.set i v = l.take i ++ v :: l.drop (i + 1) := by rw [List.set_eq_take_append_cons_drop, if_pos hil]
    have hX : (flat (l.take i)).length = i * 7 := by rw [flat_len, List.length_take]; congr 1; omega
    have e1 : flat l = flat (l.take i) ++ old.row ++ flat (l.drop (i + 1)) := by
      conv => lhs; rw [el]
      rw [flat_append]
      simp [flat]
    have e2 : flat (l.set i v) = flat (l.take i) ++ v.row ++ flat (l.drop (i + 1)) := by
      rw [es, flat_append]
      simp [flat]
    have e3 : cur = (flat (l.take i) ++ old.row ++ (flat (l.drop (i + 1)) ++ cur.toList.drop (l.length * 7))).toArray := by
      rw [← List.append_assoc, ← e1, ← h7, List.take_append_drop]
    have hb : Blk w g 33 (flat (l.take i) ++ old.row ++ (flat (l.drop (i + 1)) ++ cur.toList.drop (l.length * 7))).toArray := by rw [← e3]; exact h3
    have hb2 := blk_setCells v.row (flat (l.take i)) old.row _ w rfl hb
    rw [hX] at hb2
    have hsz : ((flat (l.take i) ++ v.row ++ (flat (l.drop (i + 1)) ++ cur.toList.drop (l.length * 7))).toArray).size = cur.size := by
      conv => rhs; rw [e3]
      simp [row_len]
    refine ⟨⟨by rw [flat_len, List.length_set], .inr ⟨g, cp, _, rfl, h2, hb2, h4, h5, hsz.trans h6, ?_⟩⟩, fun j hj => ⟨?_, hb.frozen _⟩⟩
    · rw [← List.append_assoc, ← e2, List.toList_toArray, List.take_left' (by rw [flat_len, List.length_set])]
    · have hc : i * 7 + j < cur.size := by
        rw [h6]
        have : l.length ≤ cp := h4
        have : (i + 1) * 7 ≤ l.length * 7 := Nat.mul_le_mul_right 7 hil
        have : l.length * 7 ≤ cp * 7 := Nat.mul_le_mul_right 7 h4
        omega
      have hb' : Blk w g 33 cur := h3
      rw [hb'.cell, Array.getElem?_eq_getElem hc]
      rfl
end
theorem owns_base {w : World} {base : Nat} {e : TypeId} {k : Nat} {v : Value} {n : Nat} {xs : List Value} (h : w.ownsRow base e k v n xs) {B : Nat} (hB : B ≤ base) : w.ownsRow B e k v n xs := by
  refine ⟨h.1, h.2.imp id ?_⟩
  rintro ⟨g, cp, cur, rfl, h1, h2⟩
  exact ⟨g, cp, cur, rfl, by omega, h2⟩
theorem owns_fresh {w : World} {base : Nat} {S : Nat → Prop} {v : Value} {l : List Val} (h : w.ownsRow base 33 7 v l.length (flat l)) (hS : ∀ i, base ≤ i → ¬ S i) : ∃ a cp, v = .slice a l.length cp ∧ l.length ≤ cp ∧ cp ≤ maxLen ∧ Lst w S a l := by
  obtain ⟨a, cp, rfl, q1, q2⟩ := owns_slice (owns_base h (Nat.zero_le _))
  exact ⟨a, cp, rfl, q1, q2, owns_lst (owns_base h (Nat.zero_le _)) (fun i hi => hS i (h.lt i hi).1)⟩
theorem lst_src {w w' : World} {S : Nat → Prop} {a : Option Addr} {l : List Val} (h : Lst w S a l) (hb : Below w.heap.size w w') : 0 < l.length → ∃ ad, a = some ad ∧ ∀ j u, (flat l)[j]? = some u → w'.cell? (ad.add j) = some u := fun h0 => (h.below hb).flat h0

theorem clone_any (S : Nat → Prop) (a : Option Addr) (cp : Nat) (l : List Val) (w : World) (h : Lst w S a l) (hl : l.length ≤ 4096) :
    Calls Try.prog 26 #[.slice a l.length cp] w fun e w' => ∃ v, e = .returned v ∧ w'.ownsRow w.heap.size 33 7 v l.length (flat l) ∧ Below w.heap.size w w' := by
  have HL := Lib.hid h
  by_cases hn : a = none
  · subst hn
    have h0 : l.length = 0 := by
      rcases Nat.eq_zero_or_pos l.length with h0 | h0
      · exact h0
      · obtain ⟨b, off, h1, _⟩ := h h0
        cases h1
    obtain rfl := List.eq_nil_of_length_eq_zero h0
    clear h HL
    have heq := fun (w : World) (a : Option Addr) (n c : Nat) => Lib.run_eql_slice_nil (P := Try.prog) w 22 33 a n c 0 0 Try.underlying22
    go_enter Try.func26, Try.ntmps26
    go_wp2
    go_ret
    exact ⟨_, rfl, World.ownsRow_nil _ _ _ _, Below.refl _ _⟩
  · obtain ⟨ad, rfl⟩ := Option.ne_none_iff_exists'.1 hn
    obtain ⟨i, hi, hz, hs7, hby⟩ := val_app
    have hlen := flat_len l
    have HLEN := Lib.hid hlen
    clear h hn hlen
    have heq := fun (w : World) (a : Option Addr) (n c : Nat) => Lib.run_eql_slice_nil (P := Try.prog) w 22 33 a n c 0 0 Try.underlying22
    go_enter Try.func26, Try.ntmps26
    go_wp2_with (at_builtin; refine wpList_append_src _ rfl (.tmp 5) (.tmp 6) 22 rfl w.heap.size 33 i _ 7 56 Try.underlying22 hi hz hs7 hby (cellsV_size _) (by omega) (.slice (some ⟨w.heap.size, 0, none⟩) 0 0) 0 [] rfl (owns_empty (Blk.new w _ _) (Nat.le_refl _)) (some ad) l.length cp (flat l) rfl (by rw [HLEN.out]) (fun h0 => lst_src HL.out ((Below.refl _ _).alloc (Nat.le_refl _) _) h0) flat_mem (by unfold maxLen; omega) (by omega) (by simp) ?_; intro v w1 ho hg hv)
    have hZ : w1.ownsRow w.heap.size 33 7 v l.length (flat l) ∧ Below w.heap.size w w1 := by
      refine ⟨by simpa using ho, ?_⟩
      exact below_only ((Below.refl _ _).alloc (Nat.le_refl _) _) (g := w.heap.size) hg (by simp) (Nat.le_refl _)
    have HZ := Lib.hid hZ
    clear ho hg hv hZ hi hz hs7 hby
    go_wp2
    go_ret
    exact ⟨_, rfl, HZ.out⟩
end Go.Proofs.Ytbieokgdjhkebaa
