/- The closure that counts boundaries; the weight of an index; whether an index belongs to this boundary. (mkbnd.py writes this text.) -/
import Derived.Test.YtcjohlbglbcglaaBat
import Derived.Test.YtcjohlbglbcglaaWeight
import Derived.Test.YtcjohlbglbcglaaKept
import Derived.Test.YtcjohlbglbcglaaFirst
import Derived.Test.YtcjohlbglbcglaaUOwn
namespace Go.Proofs.Ytcjohlbglbcglaa
open Go Go.RowKit
set_option linter.unusedVariables false
set_option linter.unusedSimpArgs false
set_option maxRecDepth 100000

/-- The closure's cells: the limit, the boundary, the sum. -/
def Bnd (w : World) (h : Nat) (lim : Int) (p : Nat × Int) : Prop :=
  Blk w h 23 #[.int .u64 lim] ∧ Blk w (h + 1) 3 #[.int .i64 (p.1 : Int)] ∧ Blk w (h + 2) 23 #[.int .u64 p.2]
def bndF (h : Nat) : Value := .func (.func 33) #[] #[.pointer (some ⟨h + 2, 0, none⟩), .pointer (some ⟨h + 1, 0, none⟩), .pointer (some ⟨h, 0, none⟩)]
theorem cell_one (W : World) (v : Value) (t : TypeId) : ∀ j u, [v][j]? = some u → (W.alloc (.cells #[v] t)).cell? ((⟨W.heap.size, 0, none⟩ : Addr).add j) = some u := by
  intro j u hj
  match j, hj with
  | 0, hj =>
    simp at hj
    subst hj
    rw [add_plain]
    exact (Blk.new W t #[v]).cell 0
def Amt (x : Int) : Prop := 0 ≤ x ∧ x ≤ 18446744073709551615
theorem bstep_amt {lim x : Int} {p : Nat × Int} (hp : Amt p.2) (hx : Amt x) (hl : Amt lim) : Amt (bstep lim p x).2 := by
  unfold bstep
  unfold Amt at *
  split
  · exact hx
  · simp; omega
section
variable {w w' : World} {h : Nat} {k : Nat} {lim s x : Int} {p : Nat × Int} {S : Nat → Prop} {a : Option Addr} {L : List Int}
theorem Bnd.kept (hb : Bnd w h lim p) (hk : Kept S w w') (hS : ∀ i, h ≤ i → i ≤ h + 2 → ¬ S i) : Bnd w' h lim p :=
  ⟨hb.1.kept hk (hS _ (by omega) (by omega)), hb.2.1.kept hk (hS _ (by omega) (by omega)), hb.2.2.kept hk (hS _ (by omega) (by omega))⟩
theorem Bnd.lt (hb : Bnd w h lim p) : h + 2 < w.heap.size := hb.2.2.lt
theorem boundaries_any (lim : Int) (w : World) :
    Calls Try.prog 22 #[.int .u64 lim] w fun e w' => e = .returned (bndF w.heap.size) ∧ Bnd w' w.heap.size lim (0, 0) ∧ Below w.heap.size w w' ∧ w'.heap.size = w.heap.size + 3 := by
  have hmf : ∀ (fn : Fn) (first cap : Array Value) (w : World), (Instr.makeFunc fn first cap).run Try.prog w = .ok (.func fn first cap) w := fun _ _ _ _ => rfl
  have c1 : ((w.alloc (.cells #[.int .u64 lim] 23)).alloc (.cells #[.int .i64 0] 3)).cell? ⟨w.heap.size + 1, 0, none⟩ = some (.int .i64 0) := by
    have := (Blk.new (w.alloc (.cells #[.int .u64 lim] 23)) 3 #[.int .i64 0]).cell 0
    rwa [World.size_alloc] at this
  go_enter Try.func22, Try.ntmps22
  go_wp2
  go_ret
  have b1 := Blk.new (w.alloc (.cells #[.int .u64 lim] 23)) 3 #[.int .i64 0]
  rw [World.size_alloc] at b1
  have b2 := Blk.new ((w.alloc (.cells #[.int .u64 lim] 23)).alloc (.cells #[.int .i64 0] 3)) 23 #[.int .u64 0]
  rw [World.size_alloc, World.size_alloc] at b2
  exact ⟨rfl, ⟨((Blk.new w _ _).alloc _).alloc _, b1.alloc _, b2⟩, (((Below.refl _ w).alloc (Nat.le_refl _) _).alloc (by simp) _).alloc (by simp; omega) _, by simp⟩
/-- The sum of two. -/
theorem add_two (s x : Int) (w : World) (hs : Amt s) (hx : Amt x) :
    Calls Try.prog 34 #[.slice (some ⟨w.heap.size, 0, none⟩) 2 2] (w.alloc (.cells #[.int .u64 s, .int .u64 x] 23)) fun e w' => e = .returned (.tuple #[.int .u64 (if s + x ≤ 18446744073709551615 then s + x else 0), .bool (decide (s + x ≤ 18446744073709551615))]) ∧ w.alloc (.cells #[.int .u64 s, .int .u64 x] 23) = w' := by
  have b := Blk.new w 23 #[.int .u64 s, .int .u64 x]
  have h := add_row w.heap.size 0 2 2 [s, x] (w.alloc (.cells #[.int .u64 s, .int .u64 x] 23)) (by omega) (fun i hi => by
    rcases i with _ | _ | i
    · exact b.cell 0
    · exact b.cell 1
    · omega) (fun i => by
    rcases i with _ | _ | i
    · exact hs
    · exact hx
    · exact ⟨Int.le_refl 0, show (0 : Int) ≤ 18446744073709551615 by decide⟩)
  have e : sumTo [s, x] 2 = s + x := by simp [sumTo]
  rw [addQ, addOk, e] at h
  exact h
set_option maxHeartbeats 800000 in
theorem bnd_zero (w : World) (hb : Bnd w h lim (0, s)) (hs : Amt s) (hx : Amt x) (hl : Amt lim) :
    Calls Try.prog 33 #[.int .u64 x, .pointer (some ⟨h + 2, 0, none⟩), .pointer (some ⟨h + 1, 0, none⟩), .pointer (some ⟨h, 0, none⟩)] w fun e w' =>
      e = .returned (.int .i64 ((bstep lim (0, s) x).1 : Int)) ∧ Bnd w' h lim (bstep lim (0, s) x) ∧ Kept (fun i => i = h + 1 ∨ i = h + 2) w w' := by
  have HA := add_two s x w hs hx
  have HE := Lib.hid (bstep_zero lim s x)
  generalize (if s + x ≤ 18446744073709551615 then s + x else 0) = q at HA
  generalize decide (s + x ≤ 18446744073709551615) = ok at HA
  have HAD := Lib.hid HA
  have B := Lib.hid hb
  have X := Lib.hid hx
  have S := Lib.hid hs
  have c0 : (w.alloc (.cells #[.int .u64 s, .int .u64 x] 23)).cell? ⟨h, 0, none⟩ = some (.int .u64 lim) := (hb.1.alloc _).cell 0
  have c1 : (w.alloc (.cells #[.int .u64 s, .int .u64 x] 23)).cell? ⟨h + 1, 0, none⟩ = some (.int .i64 0) := (hb.2.1.alloc _).cell 0
  have c2 : w.cell? ⟨h + 2, 0, none⟩ = some (.int .u64 s) := hb.2.2.cell 0
  have c2' : (w.alloc (.cells #[.int .u64 s, .int .u64 x] 23)).cell? ⟨h + 2, 0, none⟩ = some (.int .u64 s) := (hb.2.2.alloc _).cell 0
  have f1 : (w.alloc (.cells #[.int .u64 s, .int .u64 x] 23)).frozen? ⟨h + 1, 0, none⟩ = false := (hb.2.1.alloc _).frozen 0
  have f2 : (w.alloc (.cells #[.int .u64 s, .int .u64 x] 23)).frozen? ⟨h + 2, 0, none⟩ = false := (hb.2.2.alloc _).frozen 0
  clear HA hb hs hx
  go_enter Try.func33, Try.ntmps33
  go_wp2_with fail
  refine HAD.out.mono ?_
  rintro e w' ⟨rfl, rfl⟩
  clear HAD
  go_wp2
  go_ret
  rw [HE.out]
  refine ⟨rfl, ⟨?_, ?_, ?_⟩, ?_⟩
  · exact ((B.out.1.alloc _).far (show h ≠ h + 1 by omega) _).far (show h ≠ h + 2 by omega) _
  · exact ((B.out.2.1.alloc _).set_ 0 _).far (show h + 1 ≠ h + 2 by omega) _
  · exact ((B.out.2.2.alloc _).far (show h + 2 ≠ h + 1 by omega) _).set_ 0 _
  · exact (((Kept.refl _ w).alloc _).setCell (.inl (.inl rfl)) _).setCell (.inl (.inr rfl)) _
set_option maxHeartbeats 800000 in
theorem bnd_over (w : World) (hb : Bnd w h lim (k + 1, s)) (hs : Amt s) (hx : Amt x) (hl : Amt lim) (hk : k ≤ 1000000000) (ho : ¬ s + x ≤ 18446744073709551615) :
    Calls Try.prog 33 #[.int .u64 x, .pointer (some ⟨h + 2, 0, none⟩), .pointer (some ⟨h + 1, 0, none⟩), .pointer (some ⟨h, 0, none⟩)] w fun e w' =>
      e = .returned (.int .i64 ((bstep lim (k + 1, s) x).1 : Int)) ∧ Bnd w' h lim (bstep lim (k + 1, s) x) ∧ Kept (fun i => i = h + 1 ∨ i = h + 2) w w' := by
  have HA := add_two s x w hs hx
  have hgt : lim < s + x := by unfold Amt at *; omega
  have HE := Lib.hid (bstep_no (k := k) hgt)
  rw [if_neg ho, decide_eq_false ho] at HA
  have HK : Hid (k ≤ 1000000000) := Lib.hid hk
  have hk0 : ¬ ((k : Int) + 1 = 0) := by omega
  clear hgt
  have HAD := Lib.hid HA
  have B := Lib.hid hb
  have X := Lib.hid hx
  have S := Lib.hid hs
  have c0 : (w.alloc (.cells #[.int .u64 s, .int .u64 x] 23)).cell? ⟨h, 0, none⟩ = some (.int .u64 lim) := (hb.1.alloc _).cell 0
  have c1 : (w.alloc (.cells #[.int .u64 s, .int .u64 x] 23)).cell? ⟨h + 1, 0, none⟩ = some (.int .i64 ((k : Int) + 1)) := (hb.2.1.alloc _).cell 0
  have c2 : w.cell? ⟨h + 2, 0, none⟩ = some (.int .u64 s) := hb.2.2.cell 0
  have c2' : (w.alloc (.cells #[.int .u64 s, .int .u64 x] 23)).cell? ⟨h + 2, 0, none⟩ = some (.int .u64 s) := (hb.2.2.alloc _).cell 0
  have f1 : (w.alloc (.cells #[.int .u64 s, .int .u64 x] 23)).frozen? ⟨h + 1, 0, none⟩ = false := (hb.2.1.alloc _).frozen 0
  have f2 : (w.alloc (.cells #[.int .u64 s, .int .u64 x] 23)).frozen? ⟨h + 2, 0, none⟩ = false := (hb.2.2.alloc _).frozen 0
  clear HA hb hs hx
  go_enter Try.func33, Try.ntmps33
  go_wp2_with fail
  refine HAD.out.mono ?_
  rintro e w' ⟨rfl, rfl⟩
  clear HAD
  go_wp2
  go_ret
  rw [HE.out]
  refine ⟨by simp, ⟨?_, ?_, ?_⟩, ?_⟩
  · exact ((B.out.1.alloc _).far (show h ≠ h + 1 by omega) _).far (show h ≠ h + 2 by omega) _
  · exact ((B.out.2.1.alloc _).set_ 0 _).far (show h + 1 ≠ h + 2 by omega) _
  · exact ((B.out.2.2.alloc _).far (show h + 2 ≠ h + 1 by omega) _).set_ 0 _
  · exact (((Kept.refl _ w).alloc _).setCell (.inl (.inl rfl)) _).setCell (.inl (.inr rfl)) _
set_option maxHeartbeats 800000 in
theorem bnd_no (w : World) (hb : Bnd w h lim (k + 1, s)) (hs : Amt s) (hx : Amt x) (hl : Amt lim) (hk : k ≤ 1000000000) (ho : s + x ≤ 18446744073709551615) (hgt : lim < s + x) :
    Calls Try.prog 33 #[.int .u64 x, .pointer (some ⟨h + 2, 0, none⟩), .pointer (some ⟨h + 1, 0, none⟩), .pointer (some ⟨h, 0, none⟩)] w fun e w' =>
      e = .returned (.int .i64 ((bstep lim (k + 1, s) x).1 : Int)) ∧ Bnd w' h lim (bstep lim (k + 1, s) x) ∧ Kept (fun i => i = h + 1 ∨ i = h + 2) w w' := by
  have HA := add_two s x w hs hx
  have HE := Lib.hid (bstep_no (k := k) hgt)
  rw [if_pos ho, decide_eq_true ho] at HA
  generalize hq : s + x = q at *
  have hk0 : ¬ ((k : Int) + 1 = 0) := by omega
  have HQ := Lib.hid hq
  clear hq
  have HAD := Lib.hid HA
  have B := Lib.hid hb
  have X := Lib.hid hx
  have S := Lib.hid hs
  have c0 : (w.alloc (.cells #[.int .u64 s, .int .u64 x] 23)).cell? ⟨h, 0, none⟩ = some (.int .u64 lim) := (hb.1.alloc _).cell 0
  have c1 : (w.alloc (.cells #[.int .u64 s, .int .u64 x] 23)).cell? ⟨h + 1, 0, none⟩ = some (.int .i64 ((k : Int) + 1)) := (hb.2.1.alloc _).cell 0
  have c2 : w.cell? ⟨h + 2, 0, none⟩ = some (.int .u64 s) := hb.2.2.cell 0
  have c2' : (w.alloc (.cells #[.int .u64 s, .int .u64 x] 23)).cell? ⟨h + 2, 0, none⟩ = some (.int .u64 s) := (hb.2.2.alloc _).cell 0
  have f1 : (w.alloc (.cells #[.int .u64 s, .int .u64 x] 23)).frozen? ⟨h + 1, 0, none⟩ = false := (hb.2.1.alloc _).frozen 0
  have f2 : (w.alloc (.cells #[.int .u64 s, .int .u64 x] 23)).frozen? ⟨h + 2, 0, none⟩ = false := (hb.2.2.alloc _).frozen 0
  clear HA hb hs hx
  go_enter Try.func33, Try.ntmps33
  go_wp2_with fail
  refine HAD.out.mono ?_
  rintro e w' ⟨rfl, rfl⟩
  clear HAD
  go_wp2
  go_ret
  rw [HE.out]
  refine ⟨by simp, ⟨?_, ?_, ?_⟩, ?_⟩
  · exact ((B.out.1.alloc _).far (show h ≠ h + 1 by omega) _).far (show h ≠ h + 2 by omega) _
  · exact ((B.out.2.1.alloc _).set_ 0 _).far (show h + 1 ≠ h + 2 by omega) _
  · exact ((B.out.2.2.alloc _).far (show h + 2 ≠ h + 1 by omega) _).set_ 0 _
  · exact (((Kept.refl _ w).alloc _).setCell (.inl (.inl rfl)) _).setCell (.inl (.inr rfl)) _
set_option maxHeartbeats 800000 in
theorem bnd_yes (w : World) (hb : Bnd w h lim (k + 1, s)) (hs : Amt s) (hx : Amt x) (hl : Amt lim) (hk : k ≤ 1000000000) (ho : s + x ≤ 18446744073709551615) (hle : ¬ lim < s + x) :
    Calls Try.prog 33 #[.int .u64 x, .pointer (some ⟨h + 2, 0, none⟩), .pointer (some ⟨h + 1, 0, none⟩), .pointer (some ⟨h, 0, none⟩)] w fun e w' =>
      e = .returned (.int .i64 ((bstep lim (k + 1, s) x).1 : Int)) ∧ Bnd w' h lim (bstep lim (k + 1, s) x) ∧ Kept (fun i => i = h + 1 ∨ i = h + 2) w w' := by
  have HA := add_two s x w hs hx
  have HE := Lib.hid (bstep_yes (k := k) hle)
  rw [if_pos ho, decide_eq_true ho] at HA
  generalize hq : s + x = q at *
  have hk0 : ¬ ((k : Int) + 1 = 0) := by omega
  have hk1 : ((k : Int) + 1 == 0) = false := by simp; omega
  have hle2 : decide (lim < q) = false := by simp; omega
  have HQ := Lib.hid hq
  clear hq
  have HAD := Lib.hid HA
  have B := Lib.hid hb
  have X := Lib.hid hx
  have S := Lib.hid hs
  have c0 : (w.alloc (.cells #[.int .u64 s, .int .u64 x] 23)).cell? ⟨h, 0, none⟩ = some (.int .u64 lim) := (hb.1.alloc _).cell 0
  have c1 : (w.alloc (.cells #[.int .u64 s, .int .u64 x] 23)).cell? ⟨h + 1, 0, none⟩ = some (.int .i64 ((k : Int) + 1)) := (hb.2.1.alloc _).cell 0
  have c2 : w.cell? ⟨h + 2, 0, none⟩ = some (.int .u64 s) := hb.2.2.cell 0
  have c2' : (w.alloc (.cells #[.int .u64 s, .int .u64 x] 23)).cell? ⟨h + 2, 0, none⟩ = some (.int .u64 s) := (hb.2.2.alloc _).cell 0
  have f1 : (w.alloc (.cells #[.int .u64 s, .int .u64 x] 23)).frozen? ⟨h + 1, 0, none⟩ = false := (hb.2.1.alloc _).frozen 0
  have f2 : (w.alloc (.cells #[.int .u64 s, .int .u64 x] 23)).frozen? ⟨h + 2, 0, none⟩ = false := (hb.2.2.alloc _).frozen 0
  clear HA hb hs hx
  go_enter Try.func33, Try.ntmps33
  go_wp2_with fail
  refine HAD.out.mono ?_
  rintro e w' ⟨rfl, rfl⟩
  clear HAD
  go_wp2
  go_ret
  rw [HE.out]
  refine ⟨rfl, ⟨?_, ?_, ?_⟩, ?_⟩
  · exact (B.out.1.alloc _).far (show h ≠ h + 2 by omega) _
  · exact (B.out.2.1.alloc _).far (show h + 1 ≠ h + 2 by omega) _
  · exact (B.out.2.2.alloc _).set_ 0 _
  · exact ((Kept.refl _ w).alloc _).setCell (.inl (.inr rfl)) _
/-- The closure, called. -/
theorem bnd_any (w : World) (hb : Bnd w h lim p) (hs : Amt p.2) (hx : Amt x) (hl : Amt lim) (hk : p.1 ≤ 1000000000) :
    Calls Try.prog 33 #[.int .u64 x, .pointer (some ⟨h + 2, 0, none⟩), .pointer (some ⟨h + 1, 0, none⟩), .pointer (some ⟨h, 0, none⟩)] w fun e w' =>
      e = .returned (.int .i64 ((bstep lim p x).1 : Int)) ∧ Bnd w' h lim (bstep lim p x) ∧ Kept (fun i => i = h + 1 ∨ i = h + 2) w w' := by
  obtain ⟨k, s⟩ := p
  cases k with
  | zero => exact bnd_zero w hb hs hx hl
  | succ k =>
    by_cases ho : s + x ≤ 18446744073709551615
    · by_cases hgt : lim < s + x
      · exact bnd_no w hb hs hx hl (by simp at hk; omega) ho hgt
      · exact bnd_yes w hb hs hx hl (by simp at hk; omega) ho hgt
    · exact bnd_over w hb hs hx hl (by simp at hk; omega) ho
end
end Go.Proofs.Ytcjohlbglbcglaa
