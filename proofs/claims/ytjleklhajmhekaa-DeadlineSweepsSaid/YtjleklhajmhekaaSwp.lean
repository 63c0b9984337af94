/- The reference's Sweep. -/
import Derived.Test.YtjleklhajmhekaaBools
namespace Go.Proofs.Ytjleklhajmhekaa
open Go Go.RowKit
set_option linter.unusedVariables false
set_option linter.unusedSimpArgs false

theorem one_new (w : World) (v : Value) (t : TypeId) : ∀ j u, [v][j]? = some u → (w.alloc (.cells #[v] t)).cell? ((⟨w.heap.size, 0, none⟩ : Addr).add j) = some u := fun j u hu => by
  match j, hu with
  | 0, hu =>
    simp only [List.getElem?_cons_zero] at hu
    rw [add_plain, (Blk.new w t #[v]).cell]
    exact hu
  | j + 1, hu => simp at hu
theorem one_cellV (k : Int) : ∀ u ∈ [Value.int .i64 k], u.oneCell' = true := fun u hu => by
  rw [List.mem_singleton] at hu
  subst hu
  rfl
def RefPost (w : World) (s : Nat) (L : List Bool) (v p : Int) (e : Ending) (w' : World) : Prop :=
  ∃ (m : Nat) (a : Option Addr) (cp : Nat), e = .returned (.tuple #[.slice a (paidZ L s m).length cp, .int .i64 m, .int .i64 (posN L.length s m)]) ∧ Stop L s v p m ∧ Hid (IntsAt w' (fun i => i < w.heap.size) a (paidZ L s m)) ∧ Below w.heap.size w w'
theorem rsweep_none (s : Nat) (a : Option Addr) (cap n : Nat) (v p : Int) (w : World) (h : n = 0 ∨ v < 1 ∨ p < 1) :
    Calls Try.prog 22 #[.int .i64 s, .slice a n cap, .int .i64 v, .int .i64 p] w fun e w' => e = .returned (.tuple #[.slice none 0 0, .int .i64 0, .int .i64 s]) ∧ w = w' := by
  by_cases h1 : n = 0
  · subst h1
    clear h
    go_enter Try.func22, Try.ntmps22
    go_wp2
    go_ret3
    exact ⟨rfl, rfl⟩
  · have e1 : ((n : Int) == 0) = false := by simpa using h1
    by_cases h2 : v < 1
    · clear h
      go_enter Try.func22, Try.ntmps22
      go_wp2
      go_ret3
      exact ⟨rfl, rfl⟩
    · have h3 : p < 1 := by omega
      clear h
      go_enter Try.func22, Try.ntmps22
      go_wp2
      go_ret3
      exact ⟨rfl, rfl⟩
set_option maxHeartbeats 1600000 in
theorem rsweep_any (s : Nat) (a : Option Addr) (cap : Nat) (L : List Bool) (v p : Int) (w : World) (hs : s ≤ 100) (hL : L.length ≤ 100) (hb : Bools w (fun _ => False) a L) :
    Calls Try.prog 22 #[.int .i64 s, .slice a L.length cap, .int .i64 v, .int .i64 p] w (RefPost w s L v p) := by
  by_cases hno : L.length = 0 ∨ v < 1 ∨ p < 1
  · refine (rsweep_none s a cap L.length v p w hno).mono ?_
    rintro e w' ⟨he, rfl⟩
    exact ⟨0, none, 0, he, stop_zero (by omega), Lib.hid (IntsAt.nil _ _ _), Below.refl _ _⟩
  · obtain ⟨i0, hi, hz0, hz1, hz2⟩ := int_app
    obtain ⟨n, hn⟩ : ∃ n, L.length = n := ⟨_, rfl⟩
    rw [hn] at hL hno
    rw [hn]
    have HN := Lib.hid hn
    have HB := Lib.hid hb
    have e1 : ((n : Int) == 0) = false := by simp; omega
    have hnv : ¬ v < 1 := by omega
    have hnp : ¬ p < 1 := by omega
    have hn0 : 0 < n := by omega
    obtain ⟨s1, hs1⟩ : ∃ s1, s % n = s1 := ⟨_, rfl⟩
    have hmod : (s : Int) % (n : Int) = (s1 : Int) := by rw [← hs1, Int.natCast_emod]
    have HS1 := Lib.hid hs1
    have HMOD := Lib.hid hmod
    clear hn hb hno hmod hs1
    go_enter Try.func22, Try.ntmps22
    go_wp2
    rw [HMOD.out]
    go_loopw [0, 12, 13] (fun s0 s12 s13 wr => ∃ (k q : Nat) (a1 : Option Addr) (c1 : Nat), k ≤ n ∧ q ≤ k ∧ s0 = .int .i64 (((s + k) % n : Nat) : Int) ∧ s12 = .slice a1 q c1 ∧ s13 = .int .i64 k ∧ Hid ((paidZ L s k).length = q ∧ wr.ownsRow w.heap.size 3 1 (.slice a1 q c1) q ((paidZ L s k).map (Value.int .i64))) ∧
      Hid (∀ j, j < k → (j : Int) < v ∧ j < n ∧ ((paidN L s j).length : Int) < p) ∧ Hid (Below w.heap.size w wr)) (fun _ _ s13 _ => n - (intOf s13).toNat)
    case atStart => exact ⟨0, 0, none, 0, by omega, by omega, by rw [Nat.add_zero, HS1.out], rfl, rfl, Lib.hid ⟨rfl, World.ownsRow_nil _ _ _ _⟩, Lib.hid (fun j hj => by omega), Lib.hid (Below.refl _ _)⟩
    case round =>
      obtain ⟨k, q, a1, c1, hkg, hqk, rfl, rfl, rfl, HO, HS, HK⟩ := hrel
      have hend : ∀ m, m = k → (v ≤ (k : Int) ∨ n ≤ k ∨ p ≤ (q : Int)) → RefPost w s L v p (.returned (.tuple #[.slice a1 q c1, .int .i64 k, .int .i64 (((s + k) % n : Nat) : Int)])) wr := by
        rintro m rfl hst
        have h1 := HO.out.1
        obtain ⟨a2, c2, e, _, _, _, hi2⟩ := ints_of_owns (S := fun i => i < w.heap.size) HO.out.2 (fun i hi => by have := (HO.out.2.lt i hi).1; omega)
        injection e with e1 _ e2
        subst e1 e2
        refine ⟨m, a1, c1, ?_, ⟨by rw [HN.out, ← paidZ_len, h1]; exact hst, by rw [HN.out]; exact HS.out⟩, Lib.hid hi2, HK.out⟩
        have hm0 : m ≠ 0 := by
          rintro rfl
          have h2 : q = 0 := by omega
          subst h2
          omega
        rw [h1, HN.out, posN, if_neg hm0]
      by_cases h1 : v ≤ (k : Int)
      · have he := Lib.hid (hend k rfl (.inl h1))
        clear hend
        go_wp2
        go_ret3
        exact he.out
      by_cases h2 : n ≤ k
      · have he := Lib.hid (hend k rfl (.inr (.inl h2)))
        clear hend
        go_wp2
        go_ret3
        exact he.out
      by_cases h3 : p ≤ (q : Int)
      · have he := Lib.hid (hend k rfl (.inr (.inr h3)))
        clear hend
        go_wp2
        go_ret3
        exact he.out
      clear hend
      have h1' : (k : Int) < v := by omega
      have h2' : k < n := by omega
      have h3' : (q : Int) < p := by omega
      have hss : (((s + k) % n : Nat) : Int) = (((s + k) % n : Nat) : Int) := rfl
      obtain ⟨i, hi'⟩ : ∃ i, (s + k) % n = i := ⟨_, rfl⟩
      have hil : i < n := by rw [← hi']; exact Nat.mod_lt _ (by omega)
      have hnx : (i + 1) % n = (s + (k + 1)) % n := by rw [← hi']; exact mod_succ n s k
      have hnx' : ((i : Int) + 1) % (n : Int) = (((s + (k + 1)) % n : Nat) : Int) := by rw [← hnx, Int.natCast_emod]; rfl
      rw [hi']
      have HI := Lib.hid hi'
      have HNX := Lib.hid hnx'
      clear hi' hnx hss hnx'
      obtain ⟨b, off, ha, _, hbl, hcell⟩ := HB.out (by rw [HN.out]; omega)
      subst ha
      have hx := hcell i (by rw [HN.out]; omega)
      obtain ⟨r, hr⟩ : ∃ r, L.getD i false = r := ⟨_, rfl⟩
      rw [hr] at hx
      have HR := Lib.hid hr
      have hx1 : wr.cell? ⟨b, off + i, none⟩ = some (.bool r) := (HK.out.cell (p := ⟨b, off + i, none⟩) hbl).trans hx
      clear hcell hx hr
      have HSN : Hid (∀ j, j < k + 1 → (j : Int) < v ∧ j < n ∧ ((paidN L s j).length : Int) < p) := Lib.hid (by
        have := stop_run (L := L) (s := s) (v := v) (p := p) (m := k) (by rw [HN.out]; exact HS.out) (by omega) (by rw [HN.out]; omega) (by rw [← paidZ_len, HO.out.1]; omega)
        rw [HN.out] at this
        exact this)
      cases r
      · have HO2 : Hid ((paidZ L s (k + 1)).length = q ∧ wr.ownsRow w.heap.size 3 1 (.slice a1 q c1) q ((paidZ L s (k + 1)).map (Value.int .i64))) := Lib.hid (by
          have := paidZ_miss (L := L) (s := s) (k := k) (by rw [HN.out, HI.out]; exact HR.out)
          rw [this]
          exact HO.out)
        clear HO HR HS
        go_wp2
        go_roundw
        case rel => exact ⟨k + 1, q, a1, c1, by omega, by omega, by rw [← HNX.out], rfl, by go_num, HO2, HSN, HK⟩
        case measure => simp [intOf]; omega
      · have HM : Hid ((paidZ L s (k + 1)).length = q + 1 ∧ paidZ L s (k + 1) = paidZ L s k ++ [(i : Int)]) := Lib.hid (by
          have := paidZ_hit (L := L) (s := s) (k := k) (by rw [HN.out, HI.out]; exact HR.out)
          rw [HN.out, HI.out] at this
          exact ⟨by rw [this, List.length_append, HO.out.1]; rfl, this⟩)
        clear HS HR
        go_wp2_with (at_builtin; refine wpList_append_own _ rfl _ _ 41 rfl w.heap.size 3 i0 (.int .i64 0) 1 8 Try.underlying41 hi hz0 hz1 hz2 rfl (by decide) _ _ _ rfl (HO.out.2.alloc _) ⟨wr.heap.size, 0, none⟩ 1 1 [.int .i64 (i : Int)] rfl rfl (one_new wr _ _) (one_cellV _) (by unfold maxLen; omega) (by omega) (by have := HK.out.size; simp; omega) ?_)
        intro v' w2 hown2 hgrow _
        have HK2 : Hid (Below w.heap.size w w2) := Lib.hid ((HK.out.alloc HK.out.size _).grown hgrow (by have := HK.out.size; simp; omega) (fun j hj => (HO.out.2.lt j hj).1))
        obtain ⟨a2, c2, rfl⟩ := owns_any hown2
        have HO2 : Hid ((paidZ L s (k + 1)).length = q + 1 ∧ w2.ownsRow w.heap.size 3 1 (.slice a2 (q + 1) c2) (q + 1) ((paidZ L s (k + 1)).map (Value.int .i64))) := Lib.hid ⟨HM.out.1, by rw [HM.out.2, List.map_append]; exact hown2⟩
        clear hgrow hown2 HO HM HK hx1
        go_wp2
        go_roundw
        case rel => exact ⟨k + 1, q + 1, a2, c2, by omega, by omega, by rw [← HNX.out], rfl, by go_num, HO2, HSN, HK2⟩
        case measure => simp [intOf]; omega
end Go.Proofs.Ytjleklhajmhekaa
