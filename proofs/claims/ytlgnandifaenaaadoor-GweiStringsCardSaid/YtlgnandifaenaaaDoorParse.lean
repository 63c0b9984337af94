/- gwei.Parse and the reference's Parse and Format. -/
import Derived.Test.YtlgnandifaenaaaDoorStr
import Derived.Test.YtlgnandifaenaaaDoorShelf2
import Derived.Test.YtlgnandifaenaaaDoorAlive
import Derived.Test.YtlgnandifaenaaaDoorRefMul
namespace Go.Proofs.YtlgnandifaenaaaDoor
open Go.RowKit GwStr
set_option linter.unusedVariables false

theorem bytes_append (a b : List UInt8) : ((⟨a.toArray⟩ : ByteArray) ++ (⟨b.toArray⟩ : ByteArray)) = ⟨(a ++ b).toArray⟩ := by
  apply ByteArray.ext
  simp [ByteArray.data_append]
theorem dec_short (u : Nat) (hu : u < 18446744073709551616) : (Lib.decDigits u).length ≤ 20 := by
  rw [Lib.decDigits_length]
  by_cases h : u < 10
  · rw [Lib.nDigits_small h]; decide
  · have := Lib.numDigits_eq u (by omega) hu
    split at this <;> omega
theorem refformat_one (u : Nat) (h : u < 10) (w : World) :
    Calls Tryd.prog 22 #[.int .u64 u] w fun e w' => e = .returned (.string ⟨(Lib.decDigits u).toArray⟩) ∧ w = w' := by
  rw [Lib.decDigits_one h]
  have hu : u = 0 ∨ u = 1 ∨ u = 2 ∨ u = 3 ∨ u = 4 ∨ u = 5 ∨ u = 6 ∨ u = 7 ∨ u = 8 ∨ u = 9 := by omega
  rcases hu with rfl | rfl | rfl | rfl | rfl | rfl | rfl | rfl | rfl | rfl
  all_goals
    go_enter Tryd.func22, Tryd.ntmps22
    go_wp2_with fail
    go_ret
    exact ⟨rfl, rfl⟩
theorem refformat_any (k : Nat) : ∀ (u : Nat) (w : World), u < 10 ^ k → u < 18446744073709551616 →
    Calls Tryd.prog 22 #[.int .u64 u] w fun e w' => e = .returned (.string ⟨(Lib.decDigits u).toArray⟩) ∧ w = w' := by
  induction k with
  | zero => intro u w h _; exact refformat_one u (by omega) w
  | succ k ih =>
    intro u w h hu
    by_cases h10 : u < 10
    · exact refformat_one u h10 w
    · have h1 : ∀ w, Calls Tryd.prog 22 #[.int .u64 ((u : Int) / 10)] w fun e w' => e = .returned (.string ⟨(Lib.decDigits (u / 10)).toArray⟩) ∧ w = w' := fun w => by
        have := ih (u / 10) w (by rw [Nat.pow_succ] at h; omega) (by omega)
        rwa [Int.natCast_ediv] at this
      have h2 : ∀ w, Calls Tryd.prog 22 #[.int .u64 ((u : Int) % 10)] w fun e w' => e = .returned (.string ⟨(Lib.decDigits (u % 10)).toArray⟩) ∧ w = w' := fun w => by
        have := refformat_one (u % 10) (by omega) w
        rwa [Int.natCast_emod] at this
      have e : Lib.decDigits u = Lib.decDigits (u / 10) ++ Lib.decDigits (u % 10) := by rw [dec_big h10, Lib.decDigits_one (show u % 10 < 10 by omega)]
      rw [e]
      have H1 := Lib.hid h1
      have H2 := Lib.hid h2
      have c2 := dec_short (u / 10) (by omega)
      have c3 := dec_short (u % 10) (by omega)
      have c0 : (10 : Int) ≤ (u : Int) := by omega
      have c1 : (u : Int) ≤ 18446744073709551615 := by omega
      clear h1 h2 e ih h hu h10
      generalize Lib.decDigits (u / 10) = l1 at *
      generalize Lib.decDigits (u % 10) = l2 at *
      have c4 : ¬ 9223372036854775807 < l1.length + l2.length := by omega
      clear c2 c3
      go_enter Tryd.func22, Tryd.ntmps22
      go_wp2_with fail
      refine (H1.out _).mono ?_
      rintro e w' ⟨rfl, rfl⟩
      go_wp2_with fail
      refine (H2.out _).mono ?_
      rintro e w' ⟨rfl, rfl⟩
      go_wp2_with fail
      go_ret
      exact ⟨by rw [← bytes_append]; rfl, rfl⟩

/-- The reference's reader: what it answers. -/
def refOk (l : List UInt8) : Bool := (refP l).isSome
def refN (l : List UInt8) : Nat := (refP l).getD 0

theorem toList_nil {s : ByteArray} (h : s.size = 0) : s.data.toList = [] := by
  apply List.eq_nil_of_length_eq_zero; simpa using h
theorem toList_head {s : ByteArray} (h : 0 < s.size) : s.data.toList.headD 0 = s[0] := by
  rw [List.headD_eq_head?_getD, List.head?_eq_getElem?, List.getElem?_eq_getElem (by simpa using h)]; rfl
theorem drop_cons (s : ByteArray) (k : Nat) (h : k < s.size) : s.data.toList.drop k = s[k] :: s.data.toList.drop (k + 1) := by
  rw [List.drop_eq_getElem_cons (by simpa using h)]; rfl
theorem rp_bad {c : UInt8} {r : List UInt8} {n : Nat} (h : ¬ (48 ≤ c.toNat ∧ c.toNat ≤ 57)) : rp n (c :: r) = none := by simp only [rp]; rw [if_neg h]
theorem rp_over {c : UInt8} {r : List UInt8} {n : Nat} (h : 48 ≤ c.toNat ∧ c.toNat ≤ 57) (h2 : (18446744073709551615 - (c.toNat - 48)) / 10 < n) : rp n (c :: r) = none := by simp only [rp]; rw [if_pos h, if_pos h2]
theorem rp_go {c : UInt8} {r : List UInt8} {n : Nat} (h : 48 ≤ c.toNat ∧ c.toNat ≤ 57) (h2 : ¬ (18446744073709551615 - (c.toNat - 48)) / 10 < n) : rp n (c :: r) = rp (10 * n + (c.toNat - 48)) r := by simp only [rp]; rw [if_pos h, if_neg h2]
theorem ref_none {l : List UInt8} (h : refP l = none) : refOk l = false ∧ refN l = 0 := by unfold refOk refN; rw [h]; exact ⟨rfl, rfl⟩
theorem ref_some {l : List UInt8} {n : Nat} (h : refP l = some n) : refOk l = true ∧ refN l = n := by unfold refOk refN; rw [h]; exact ⟨rfl, rfl⟩

set_option maxHeartbeats 1000000 in
theorem refparse_any (s : ByteArray) (w : World) (hs : s.size ≤ 100) :
    Calls Tryd.prog 20 #[.string s] w fun e w' => e = .returned (.tuple #[.int .u64 (refN s.data.toList : Nat), .bool (refOk s.data.toList)]) ∧ w = w' := by
  by_cases h0 : s.size = 0
  · have HE := Lib.hid (ref_none (l := s.data.toList) (by unfold refP; rw [if_pos (.inl (toList_nil h0))]))
    have z : ((s.size : Int) == 0) = true := beq_iff_eq.2 (by omega)
    clear h0
    go_enter Tryd.func20, Tryd.ntmps20
    go_wp2
    go_ret2
    exact ⟨by rw [HE.out.1, HE.out.2]; rfl, rfl⟩
  · have hp : 0 < s.size := by omega
    have z : ((s.size : Int) == 0) = false := beq_eq_false_iff_ne.2 (by omega)
    by_cases h1 : 1 < s.size ∧ s[0] = 48
    · have HE := Lib.hid (ref_none (l := s.data.toList) (by unfold refP; rw [if_pos (.inr ⟨by simpa using h1.1, by rw [toList_head hp]; exact h1.2⟩)]))
      have g1 : (1 : Int) < s.size := by have := h1.1; omega
      have g2 : ((s[0].toNat : Int) == 48) = true := by rw [h1.2]; rfl
      clear h1 h0
      go_enter Tryd.func20, Tryd.ntmps20
      go_wp2
      go_ret2
      exact ⟨by rw [HE.out.1, HE.out.2]; rfl, rfl⟩
    · have hrp : refP s.data.toList = rp 0 s.data.toList := by
        unfold refP
        rw [if_neg]
        rintro (h | ⟨h2, h3⟩)
        · rw [List.eq_nil_iff_length_eq_zero] at h; simp at h; exact h0 (by rw [h]; rfl)
        · exact h1 ⟨by simpa using h2, by rw [← toList_head hp]; exact h3⟩
      have HP := Lib.hid hrp
      have hcase : ((s.size : Int) ≤ 1) ∨ ((1 : Int) < s.size ∧ ((s[0].toNat : Int) == 48) = false) := by
        by_cases g : s.size ≤ 1
        · exact .inl (by omega)
        · refine .inr ⟨by omega, beq_eq_false_iff_ne.2 fun e => ?_⟩
          exact h1 ⟨by omega, UInt8.toNat_inj.1 (by have e2 : (48 : UInt8).toNat = 48 := rfl; omega)⟩
      clear hrp h1 h0
      rcases hcase with g1 | ⟨g1, g2⟩
      all_goals
        go_enter Tryd.func20, Tryd.ntmps20
        go_wp2
        try clear g2
        clear g1 z
        go_loop [4, 5, 6] (fun s4 s5 _ => ∃ k n : Nat, k ≤ s.size ∧ s5 = .int .i64 k ∧ s4 = .int .u64 n ∧ Hid (rp 0 s.data.toList = rp n (s.data.toList.drop k) ∧ n < 18446744073709551616)) (fun _ s5 _ => s.size - (intOf s5).toNat)
        case atStart => exact ⟨0, 0, by omega, rfl, rfl, Lib.hid ⟨rfl, by omega⟩⟩
        case round =>
          obtain ⟨k, n, hk, rfl, rfl, HI⟩ := hrel
          have n1 : (n : Int) ≤ 18446744073709551615 := by have := HI.out.2; omega
          by_cases hlt : k < s.size
          · have HDC := Lib.hid (drop_cons s k hlt)
            by_cases hd : 48 ≤ s[k].toNat ∧ s[k].toNat ≤ 57
            · have hc : (48 : Int) ≤ (s[k].toNat : Int) := by omega
              have hc2 : (s[k].toNat : Int) ≤ 57 := by omega
              by_cases hov : (18446744073709551615 - ((s[k].toNat : Int) - 48)) / 10 < (n : Int)
              · have HE := Lib.hid (ref_none (l := s.data.toList) (by rw [HP.out, HI.out.1, HDC.out]; exact rp_over hd (by omega)))
                clear hd
                go_wp2_with (go_at_call 13; refine (refmax_any _).mono ?_; rintro e w' ⟨rfl, rfl⟩)
                go_ret2
                exact ⟨by rw [HE.out.1, HE.out.2]; rfl, rfl⟩
              · have HN : Hid (rp 0 s.data.toList = rp (10 * n + (s[k].toNat - 48)) (s.data.toList.drop (k + 1)) ∧ 10 * n + (s[k].toNat - 48) < 18446744073709551616) :=
                  Lib.hid ⟨by rw [HI.out.1, HDC.out]; exact rp_go hd (by omega), by omega⟩
                clear hd
                go_wp2_with (go_at_call 13; refine (refmax_any _).mono ?_; rintro e w' ⟨rfl, rfl⟩)
                go_round
                case rel => exact ⟨k + 1, 10 * n + (s[k].toNat - 48), by omega, by go_num, by go_num, HN⟩
                case measure => simp [intOf]; omega
            · have HE := Lib.hid (ref_none (l := s.data.toList) (by rw [HP.out, HI.out.1, HDC.out]; exact rp_bad hd))
              have hc : ((s[k].toNat : Int) < 48) ∨ (¬ ((s[k].toNat : Int) < 48) ∧ (57 : Int) < (s[k].toNat : Int)) := by omega
              clear hd
              rcases hc with hc | ⟨hc, hc2⟩
              all_goals
                go_wp2
                go_ret2
                exact ⟨by rw [HE.out.1, HE.out.2]; rfl, rfl⟩
          · obtain rfl : k = s.size := by omega
            have HE := Lib.hid (ref_some (l := s.data.toList) (n := n) (by rw [HP.out, HI.out.1, List.drop_of_length_le (by simp)]; rfl))
            clear hlt
            have hlt : ¬ s.size < s.size := by omega
            go_wp2
            go_ret2
            exact ⟨by rw [HE.out.1, HE.out.2]; rfl, rfl⟩
end Go.Proofs.YtlgnandifaenaaaDoor
