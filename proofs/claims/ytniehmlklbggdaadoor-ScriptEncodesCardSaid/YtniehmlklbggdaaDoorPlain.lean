/- Operations and bytes as plain functions; encoding and decoding invert each other. -/
import Derived.Test.YtniehmlklbggdaaDoorOq
namespace Go.Proofs.YtniehmlklbggdaaDoor
open Go Go.RowKit
set_option linter.unusedVariables false
set_option linter.unusedSimpArgs false

/-! ### numbers as bytes -/
def bigL (x : Int) : Nat → List Int
  | 0 => []
  | n + 1 => (x / 256 ^ n % 256) :: bigL x n
def valF (a : Int) (l : List Int) : Int := l.foldl (fun a b => 256 * a + b) a
def valL (l : List Int) : Int := valF 0 l
def AllB (l : List Int) : Prop := ∀ x ∈ l, 0 ≤ x ∧ x ≤ 255
theorem bigL_len (x : Int) : ∀ n, (bigL x n).length = n
  | 0 => rfl
  | n + 1 => by simp [bigL, bigL_len x n]
theorem bigL_all (x : Int) : ∀ n, AllB (bigL x n)
  | 0 => by intro b hb; simp [bigL] at hb
  | n + 1 => by
    intro b hb
    simp only [bigL, List.mem_cons] at hb
    rcases hb with rfl | hb
    · omega
    · exact bigL_all x n b hb
theorem pow_pos256 (n : Nat) : (0 : Int) < 256 ^ n := Int.pow_pos (by decide)
theorem valF_cons (a b : Int) (l : List Int) : valF a (b :: l) = valF (256 * a + b) l := rfl
theorem valF_snoc (a b : Int) (l : List Int) : valF a (l ++ [b]) = 256 * valF a l + b := by simp [valF]
theorem valF_eq (l : List Int) : ∀ a, valF a l = a * 256 ^ l.length + valL l := by
  induction l with
  | nil => intro a; simp [valF, valL]
  | cons b l ih =>
    intro a
    rw [valF_cons, ih, show valL (b :: l) = valF (256 * 0 + b) l from rfl, ih (256 * 0 + b)]
    simp only [List.length_cons, Int.pow_succ]
    have : (256 * a + b) * 256 ^ l.length = a * (256 ^ l.length * 256) + b * 256 ^ l.length := by
      rw [Int.add_mul, Int.mul_comm 256 a, Int.mul_assoc, Int.mul_comm 256 (256 ^ l.length)]
    rw [this]
    have e2 : (256 * 0 + b) * 256 ^ l.length = b * 256 ^ l.length := by simp
    rw [e2]
    omega
theorem valL_cons (b : Int) (l : List Int) : valL (b :: l) = b * 256 ^ l.length + valL l := by
  rw [valL, valF_cons, valF_eq]; simp
theorem valL_take {l : List Int} {i : Nat} (hi : i < l.length) : valL (l.take (i + 1)) = 256 * valL (l.take i) + l.getD i 0 := by
  rw [List.take_add_one, List.getElem?_eq_getElem hi, Option.toList, valL, valF_snoc, List.getD_eq_getElem?_getD, List.getElem?_eq_getElem hi]
  rfl
theorem valL_bd {l : List Int} (h : AllB l) : 0 ≤ valL l ∧ valL l < 256 ^ l.length := by
  induction l with
  | nil => simp [valL, valF]
  | cons b l ih =>
    obtain ⟨h0, h1⟩ := ih fun x hx => h x (List.mem_cons_of_mem _ hx)
    have hb := h b (by simp)
    rw [valL_cons, List.length_cons, Int.pow_succ]
    have hp := pow_pos256 l.length
    have h2 : 0 ≤ b * 256 ^ l.length := Int.mul_nonneg hb.1 (by omega)
    have h3 : b * 256 ^ l.length ≤ 255 * 256 ^ l.length := Int.mul_le_mul_of_nonneg_right hb.2 (by omega)
    omega
theorem valF_bigL (x : Int) : ∀ n a, valF a (bigL x n) = a * 256 ^ n + x % 256 ^ n
  | 0, a => by simp [bigL, valF, Int.emod_one]
  | n + 1, a => by
    rw [bigL, valF_cons, valF_bigL x n]
    have hp := pow_pos256 n
    have e1 := Int.emod_add_mul_ediv x (256 ^ n)
    have e2 := Int.emod_add_mul_ediv (x / 256 ^ n) 256
    have r1 := Int.emod_nonneg x (show (256 : Int) ^ n ≠ 0 by omega)
    have r2 := Int.emod_lt_of_pos x hp
    have d1 : 0 ≤ x / 256 ^ n % 256 := by omega
    have d2 : x / 256 ^ n % 256 ≤ 255 := by omega
    generalize x / 256 ^ n % 256 = d at *
    generalize x / 256 ^ n / 256 = q at *
    generalize hr : x % 256 ^ n = r at *
    have h2 : 0 ≤ d * 256 ^ n := Int.mul_nonneg d1 (by omega)
    have h3 : d * 256 ^ n ≤ 255 * 256 ^ n := Int.mul_le_mul_of_nonneg_right d2 (by omega)
    have hx : x = (d * 256 ^ n + r) + (256 ^ n * 256) * q := by
      rw [← e2] at e1
      rw [← e1, Int.mul_add, Int.mul_comm (256 ^ n) d, Int.mul_assoc]
      omega
    rw [Int.pow_succ]
    have hm : x % (256 ^ n * 256) = d * 256 ^ n + r := by
      rw [hx, Int.add_mul_emod_self_left]
      exact Int.emod_eq_of_lt (by omega) (by omega)
    rw [hm, Int.add_mul, Int.mul_comm 256 a, Int.mul_assoc, Int.mul_comm 256 (256 ^ n)]
    omega
theorem valL_bigL {x : Int} {n : Nat} (h0 : 0 ≤ x) (h1 : x < 256 ^ n) : valL (bigL x n) = x := by
  rw [valL, valF_bigL, Int.emod_eq_of_lt h0 h1]; simp
theorem bigL_shift (b v : Int) (n : Nat) : ∀ k, k ≤ n → bigL (b * 256 ^ n + v) k = bigL v k
  | 0, _ => rfl
  | k + 1, hk => by
    rw [bigL, bigL, bigL_shift b v n k (by omega)]
    have hp := pow_pos256 k
    obtain ⟨m, rfl⟩ : ∃ m, n = k + 1 + m := ⟨n - (k + 1), by omega⟩
    have e : b * 256 ^ (k + 1 + m) + v = v + 256 ^ k * (256 * (b * 256 ^ m)) := by
      rw [Int.pow_add, Int.pow_succ, Int.add_comm, Int.mul_left_comm, Int.mul_assoc, Int.mul_left_comm 256 b]
    rw [e, Int.add_mul_ediv_left _ _ (by omega)]
    congr 1
    omega
theorem bigL_valL {l : List Int} (h : AllB l) : bigL (valL l) l.length = l := by
  induction l with
  | nil => rfl
  | cons b l ih =>
    have hl : AllB l := fun x hx => h x (List.mem_cons_of_mem _ hx)
    have hb := h b (by simp)
    obtain ⟨h0, h1⟩ := valL_bd hl
    have hp := pow_pos256 l.length
    rw [valL_cons, List.length_cons, bigL, bigL_shift _ _ _ _ (Nat.le_refl _), ih hl]
    congr 1
    rw [Int.add_comm, Int.add_mul_ediv_right _ _ (by omega), Int.ediv_eq_zero_of_lt h0 h1]
    omega

/-! ### operands -/
inductive Od where | ix | tg | am
deriving DecidableEq, Inhabited
def Od.sz : Od → Nat | .ix => 2 | .tg => 2 | .am => 8
/-- The field as an unsigned number. -/
def Od.get : Od → Oq → Int | .ix, o => IntKind.u64.wrap o.ix | .tg, o => IntKind.u64.wrap o.tg | .am, o => o.am
def Od.set : Od → Oq → Int → Oq | .ix, o, v => ⟨o.kd, IntKind.i64.wrap v, o.tg, o.am⟩ | .tg, o, v => ⟨o.kd, o.ix, IntKind.i64.wrap v, o.am⟩ | .am, o, v => ⟨o.kd, o.ix, o.tg, v⟩
def ods (k : Int) : Option (List Od) :=
  if k = 1 then some [.am] else if k = 2 then some [.ix] else if k = 3 then some [.ix] else if k = 4 then some [.ix] else if k = 5 then some [.ix, .tg] else if k = 6 then some [.ix, .am] else if k = 7 then some [] else none
def szs : List Od → Nat
  | [] => 0
  | d :: l => d.sz + szs l
/-- P19.3. -/
def sizeK (k : Int) : Nat := match ods k with | none => 0 | some l => szs l + 1
def idxB (n : Int) (u : Bool) : Bool := decide (n = 0) || (u && (decide (0 < n) && decide (n ≤ 65535)))
def usesB (k : Int) (d : Od) : Bool := match ods k with | none => false | some l => l.contains d
/-- P19.1. -/
def validB (o : Oq) : Bool := (ods o.kd).isSome && (idxB o.ix (usesB o.kd .ix) && (idxB o.tg (usesB o.kd .tg) && (decide (o.am = 0) || usesB o.kd .am)))
def encF (o : Oq) : List Od → List Int
  | [] => []
  | d :: l => bigL (d.get o) d.sz ++ encF o l
def encL (o : Oq) : List Int := o.kd :: encF o ((ods o.kd).getD [])
def fillF : List Od → List Int → Oq → Oq
  | [], _, o => o
  | d :: l, L, o => fillF l (L.drop d.sz) (d.set o (valL (L.take d.sz)))
/-- P19.2, at an offset in the range. -/
def decS (L : List Int) (at_ : Nat) : Oq × Int :=
  match ods (L.getD at_ 0) with
  | none => (oqZ, (at_ : Int) + 1)
  | some l => if szs l + 1 ≤ L.length - at_ then (fillF l (L.drop (at_ + 1)) ⟨L.getD at_ 0, 0, 0, 0⟩, ((at_ + (szs l + 1) : Nat) : Int)) else (oqZ, (L.length : Int))
theorem ods_cases (k : Int) : (k = 1 ∧ ods k = some [.am]) ∨ (k = 2 ∧ ods k = some [.ix]) ∨ (k = 3 ∧ ods k = some [.ix]) ∨ (k = 4 ∧ ods k = some [.ix]) ∨ (k = 5 ∧ ods k = some [.ix, .tg]) ∨ (k = 6 ∧ ods k = some [.ix, .am]) ∨ (k = 7 ∧ ods k = some []) ∨ ((k < 1 ∨ 7 < k) ∧ ods k = none) := by
  rcases (show k = 1 ∨ k = 2 ∨ k = 3 ∨ k = 4 ∨ k = 5 ∨ k = 6 ∨ k = 7 ∨ (k < 1 ∨ 7 < k) by omega) with rfl | rfl | rfl | rfl | rfl | rfl | rfl | h
  · exact .inl ⟨rfl, rfl⟩
  · exact .inr (.inl ⟨rfl, rfl⟩)
  · exact .inr (.inr (.inl ⟨rfl, rfl⟩))
  · exact .inr (.inr (.inr (.inl ⟨rfl, rfl⟩)))
  · exact .inr (.inr (.inr (.inr (.inl ⟨rfl, rfl⟩))))
  · exact .inr (.inr (.inr (.inr (.inr (.inl ⟨rfl, rfl⟩)))))
  · exact .inr (.inr (.inr (.inr (.inr (.inr (.inl ⟨rfl, rfl⟩))))))
  · refine .inr (.inr (.inr (.inr (.inr (.inr (.inr ⟨h, ?_⟩))))))
    unfold ods
    rw [if_neg (by omega), if_neg (by omega), if_neg (by omega), if_neg (by omega), if_neg (by omega), if_neg (by omega), if_neg (by omega)]
theorem encF_len (o : Oq) : ∀ l, (encF o l).length = szs l
  | [] => rfl
  | d :: l => by simp [encF, szs, bigL_len, encF_len o l]
theorem encF_all (o : Oq) : ∀ l, AllB (encF o l)
  | [] => by intro b hb; simp [encF] at hb
  | d :: l => by
    intro b hb
    rcases List.mem_append.1 hb with hb | hb
    · exact bigL_all _ _ b hb
    · exact encF_all o l b hb
theorem ods_some {k : Int} {l : List Od} (h : ods k = some l) : 1 ≤ k ∧ k ≤ 7 ∧ szs l ≤ 10 ∧ l.length ≤ 2 := by
  rcases ods_cases k with ⟨rfl, e⟩ | ⟨rfl, e⟩ | ⟨rfl, e⟩ | ⟨rfl, e⟩ | ⟨rfl, e⟩ | ⟨rfl, e⟩ | ⟨rfl, e⟩ | ⟨_, e⟩
  all_goals
    rw [e] at h
    first
      | (injection h with h; subst h; decide)
      | cases h
theorem encL_all {o : Oq} {l : List Od} (h : ods o.kd = some l) : AllB (encL o) := by
  intro b hb
  simp only [encL, h, Option.getD_some, List.mem_cons] at hb
  rcases hb with rfl | hb
  · have := ods_some h; omega
  · exact encF_all o l b hb
theorem encL_len {o : Oq} {l : List Od} (h : ods o.kd = some l) : (encL o).length = szs l + 1 := by
  simp [encL, h, encF_len]
end Go.Proofs.YtniehmlklbggdaaDoor
