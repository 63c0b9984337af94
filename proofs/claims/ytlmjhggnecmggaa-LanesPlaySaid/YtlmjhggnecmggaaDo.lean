/- do: an operation on lanes and on the reference. -/
import Derived.Test.YtlmjhggnecmggaaLive
import Derived.Test.YtlmjhggnecmggaaRefP
import Derived.Test.YtlmjhggnecmggaaFirst
namespace Go.Proofs.Ytlmjhggnecmggaa
open Go Go.RowKit
set_option linter.unusedVariables false
set_option linter.unusedSimpArgs false

/-- Lanes and the reference, made since w0, apart, with the same queues. -/
def Both (w0 w : World) (b d : Nat) (S : Nat → Prop) (n : Nat) (F V : List Int) : Prop := Own w0 w b S n F V ∧ RefAt w S d n F V ∧ ¬ S d ∧ w0.heap.size ≤ d
section
variable {w0 w w1 w' : World} {b d n : Nat} {S : Nat → Prop} {F V F' V' : List Int}
theorem Both.below (h : Both w0 w b d S n F V) (k : Below w.heap.size w w') : Both w0 w' b d S n F V := ⟨h.1.below k, h.2.1.below k, h.2.2⟩
theorem Both.drewN (h : Both w0 w b d S n F V) (m : Nat) : Both w0 (w.drewN m) b d S n F V := ⟨h.1.drewN m, h.2.1.drewN m, h.2.2⟩
theorem Both.alloc (h : Both w0 w b d S n F V) (o : Obj) : Both w0 (w.alloc o) b d S n F V := h.below ((Below.refl _ _).alloc (Nat.le_refl _) o)
/-- The lanes have changed: the reference still stands, apart from them. -/
theorem Both.after (h : Both w0 w b d S n F V) (k : Went w0 w b S n F' V' w1) : ∃ S', Hid (Own w0 w1 b S' n F' V') ∧ Hid (RefAt w1 S' d n F V) ∧ Hid (¬ S' d) ∧ Hid (Goes S S' w w1) := by
  obtain ⟨S', o, g⟩ := k
  have hd := h.2.1.lt
  have r1 : RefAt w (fun i => S i ∨ S' i) d n F V := h.2.1.other (fun i hi e => e.elim id (fun e => (g.out.2 i e).elim id (fun e => by omega)))
  have r2 := (r1.kept g.out.1 h.2.2.1 (fun i _ e => .inl e)).other (T := S') (fun i _ e => .inr e)
  exact ⟨S', o, Lib.hid r2, Lib.hid (fun e => (g.out.2 d e).elim h.2.2.1 (fun e => by omega)), g⟩
/-- The reference has followed. -/
theorem Both.follow (h : Own w0 w1 b S n F' V') (r : RefAt w' S d n F' V') (hd : ¬ S d) (hl : w0.heap.size ≤ d) (k : Kept (fun i => i = d) w1 w') : Both w0 w' b d S n F' V' :=
  ⟨h.kept k (fun i hi e => hd (e ▸ hi)) (fun i e => by have : i = d := e; omega), r, hd, hl⟩
end
/-- Behind do. -/
def DoPost (w0 : World) (b d n : Nat) (e : Ending) (w' : World) : Prop := e = .returned (.bool true) ∧ ∃ (F V : List Int) (S : Nat → Prop), Hid (Both w0 w' b d S n F V)
section
variable {w0 w : World} {b d n : Nat} {S : Nat → Prop} {F V : List Int}
theorem do_pop (c x : Int) (h : Both w0 w b d S n F V) : Calls Try.prog 11 #[.pointer (some ⟨b, 0, none⟩), .pointer (some ⟨d, 0, none⟩), .agg #[.bool true, .int .i64 c, .int .i64 x]] w (DoPost w0 b d n) := by
  have H := Lib.hid (h.alloc (.cells #[.bool true, .int .i64 c, .int .i64 x] 31))
  have E0 : (w.alloc (.cells #[.bool true, .int .i64 c, .int .i64 x] 31)).cell? ⟨w.heap.size, 0, none⟩ = some (.bool true) := (Blk.new w 31 #[.bool true, .int .i64 c, .int .i64 x]).cell 0
  clear h
  go_enter Try.func11, Try.ntmps11
  go_wp2_with fail
  refine H.out.1.pop.mono ?_
  rintro e w2 ⟨rfl, wt⟩
  obtain ⟨S', o, r, hd, g⟩ := H.out.after wt
  have HL : Hid (w0.heap.size ≤ d) := Lib.hid H.out.2.2.2
  clear wt E0 H g
  go_wp2_with fail
  refine (rpop_any r.out).mono ?_
  rintro e w3 ⟨rfl, r3, k3⟩
  have B3 : Hid (Both w0 w3 b d S' n (popF F) (popV F V)) := Lib.hid (Both.follow o.out r3 hd.out HL.out k3)
  clear r3 k3 o r hd
  generalize hdI F V = i at *
  generalize hdC F V = j at *
  generalize hdB F V = t at *
  go_wp2_with fail
  go_ret
  exact ⟨rfl, _, _, _, B3⟩
set_option maxHeartbeats 800000 in
theorem do_push (c x : Int) (h : Both w0 w b d S n F V) : Calls Try.prog 11 #[.pointer (some ⟨b, 0, none⟩), .pointer (some ⟨d, 0, none⟩), .agg #[.bool false, .int .i64 c, .int .i64 x]] w (DoPost w0 b d n) := by
  have H := Lib.hid (h.alloc (.cells #[.bool false, .int .i64 c, .int .i64 x] 31))
  have HE : Hid (Blk (w.alloc (.cells #[.bool false, .int .i64 c, .int .i64 x] 31)) w.heap.size 31 #[.bool false, .int .i64 c, .int .i64 x]) := Lib.hid (Blk.new _ _ _)
  have E0 : (w.alloc (.cells #[.bool false, .int .i64 c, .int .i64 x] 31)).cell? ⟨w.heap.size, 0, none⟩ = some (.bool false) := HE.out.cell 0
  have HS : Hid (¬ S w.heap.size ∧ d ≠ w.heap.size) := Lib.hid ⟨fun e => Nat.lt_irrefl _ (h.1.1.lt _ e), fun e => by have := h.2.1.lt; omega⟩
  clear h
  go_enter Try.func11, Try.ntmps11
  go_wp2
  generalize w.alloc (.cells #[.bool false, .int .i64 c, .int .i64 x] 31) = W at *
  have D0 : Hid (Blk W.drew w.heap.size 31 #[.bool false, .int .i64 c, .int .i64 x]) := Lib.hid (Blk.drew HE.out)
  refine wp_region_first (fun w' => Blk w' w.heap.size 31 #[.bool false, .int .i64 c, .int .i64 x]) 12 2 [0, 1, 2, 3, 4, 6, 7, 8, 9, 10] (by kernel_rfl) (by kernel_rfl) D0.out ?_
  simp only [List.filterMap_cons, List.filterMap_nil, List.getElem?_toArray, List.getElem?_cons_zero, List.getElem?_cons_succ]
  show wpQuiet _ _ _ _ [_, _, _, _, _, _, _, _, _, _] _
  iterate 2 (go_big_quiet_step ((intros; rfl)))
  refine q_cell 3 _ _ (.int .i64 c) rfl rfl rfl (fun w h => by simp [go_sem, h]) (fun w h => Blk.cell h 1) ?_
  simp only [Act.put, List.setIfInBounds_toArray, List.set_cons_zero, List.set_cons_succ]
  iterate 1 (go_big_quiet_step ((intros; rfl)))
  refine q_cell 3 _ _ (.int .i64 x) rfl rfl rfl (fun w h => by simp [go_sem, h]) (fun w h => Blk.cell h 2) ?_
  simp only [Act.put, List.setIfInBounds_toArray, List.set_cons_zero, List.set_cons_succ]
  iterate 2 (go_big_quiet_step ((intros; rfl)))
  refine q_cell 3 _ _ (.int .i64 c) rfl rfl rfl (fun w h => by simp [go_sem, h]) (fun w h => Blk.cell h 1) ?_
  simp only [Act.put, List.setIfInBounds_toArray, List.set_cons_zero, List.set_cons_succ]
  iterate 1 (go_big_quiet_step ((intros; rfl)))
  refine q_cell 3 _ _ (.int .i64 x) rfl rfl rfl (fun w h => by simp [go_sem, h]) (fun w h => Blk.cell h 2) ?_
  simp only [Act.put, List.setIfInBounds_toArray, List.set_cons_zero, List.set_cons_succ]
  refine wpQuiet_nil ?_
  have H1 : Hid (Both w0 W.drew b d S n F V) := Lib.hid (H.out.drewN 1)
  refine headF_one (i := 5) (by kernel_rfl) (by omega) ?_
  refine wpOp_at rfl rfl (wp_call_at rfl #[.pointer (some ⟨b, 0, none⟩), .int .i64 c, .int .i64 x] (by kernel_rfl) Try.call13 ((H1.out.1.push c x).mono ?_))
  rintro e w1 ⟨rfl, wt⟩
  obtain ⟨S', o, r, hd, g⟩ := H1.out.after wt
  have D1 : Hid (Blk w1 w.heap.size 31 #[.bool false, .int .i64 c, .int .i64 x]) := Lib.hid (Blk.kept (w := W.drew) D0.out g.out.1 HS.out.1)
  refine ⟨_, rfl, D1.out, ?_⟩
  have HL : Hid (w0.heap.size ≤ d) := Lib.hid H.out.2.2.2
  clear wt H H1 g
  refine headF_one (i := 11) (by kernel_rfl) (by omega) ?_
  refine wpOp_at rfl rfl (wp_call_at rfl #[.pointer (some ⟨d, 0, none⟩), .int .i64 c, .int .i64 x] (by kernel_rfl) Try.call23 ((rpush_any c x r.out (fun i hi => o.out.1.lt i hi)).mono ?_))
  rintro e w3 ⟨rfl, r3, k3⟩
  have B3 : Hid (Both w0 w3 b d S' n (pushF n F c x) (pushV n V c x)) := Lib.hid (Both.follow o.out r3 hd.out HL.out k3)
  refine ⟨_, rfl, D1.out.kept k3 (fun e => HS.out.2 (by have : w.heap.size = d := e; omega)), ?_⟩
  clear r3 k3 o r hd
  show Region.seqB _ _ _ _ _ = true ∧ _
  refine ⟨by kernel_rfl, ?_⟩
  generalize errP n F V c = t at *
  simp only [Act.put, List.getElem_toArray, List.getElem_cons_zero, List.getElem_cons_succ, List.setIfInBounds_toArray, List.set_cons_zero, List.set_cons_succ, List.drop_succ_cons, List.drop_zero]
  go_wp2
  refine NoPanic.normal ?_
  go_wp2
  go_ret
  exact ⟨rfl, _, _, _, B3⟩
theorem do_any (p : Bool) (c x : Int) (h : Both w0 w b d S n F V) : Calls Try.prog 11 #[.pointer (some ⟨b, 0, none⟩), .pointer (some ⟨d, 0, none⟩), .agg #[.bool p, .int .i64 c, .int .i64 x]] w (DoPost w0 b d n) := by
  cases p
  · exact do_push c x h
  · exact do_pop c x h
end
end Go.Proofs.Ytlmjhggnecmggaa
