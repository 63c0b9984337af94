/- Decoding what was encoded, encoding what was decoded, and cut-off encodings, as plain functions. -/
import Derived.Test.YtniehmlklbggdaaDoorPlain
import Derived.PlainAid
namespace Go.Proofs.YtniehmlklbggdaaDoor
open Go Go.RowKit
set_option linter.unusedVariables false
set_option linter.unusedSimpArgs false

theorem wU {x : Int} (h0 : 0 ≤ x) (h1 : x ≤ 65535) : IntKind.u64.wrap x = x := IntWalk.u64_in _ ⟨h0, by omega⟩
theorem wI {x : Int} (h0 : 0 ≤ x) (h1 : x ≤ 65535) : IntKind.i64.wrap x = x := by simp [IntKind.wrap, IntKind.bits, IntKind.signed]; omega
theorem idx_yes {n : Int} : idxB n true = true ↔ 0 ≤ n ∧ n ≤ 65535 := by simp [idxB]; omega
theorem idx_no {n : Int} : idxB n false = true ↔ n = 0 := by simp [idxB]
/-- A valid operation, case by case. -/
inductive Shape : Oq → List Od → Prop
  | am (k a) (h : k = 1) (h0 : 0 ≤ a ∧ a ≤ 18446744073709551615) : Shape ⟨k, 0, 0, a⟩ [.am]
  | ix (k i) (h : k = 2 ∨ k = 3 ∨ k = 4) (h0 : 0 ≤ i ∧ i ≤ 65535) : Shape ⟨k, i, 0, 0⟩ [.ix]
  | it (k i t) (h : k = 5) (h0 : 0 ≤ i ∧ i ≤ 65535) (h1 : 0 ≤ t ∧ t ≤ 65535) : Shape ⟨k, i, t, 0⟩ [.ix, .tg]
  | ia (k i a) (h : k = 6) (h0 : 0 ≤ i ∧ i ≤ 65535) (h1 : 0 ≤ a ∧ a ≤ 18446744073709551615) : Shape ⟨k, i, 0, a⟩ [.ix, .am]
  | no (k) (h : k = 7) : Shape ⟨k, 0, 0, 0⟩ []
theorem ods1 : ods 1 = some [.am] := rfl
theorem ods2 : ods 2 = some [.ix] := rfl
theorem ods3 : ods 3 = some [.ix] := rfl
theorem ods4 : ods 4 = some [.ix] := rfl
theorem ods5 : ods 5 = some [.ix, .tg] := rfl
theorem ods6 : ods 6 = some [.ix, .am] := rfl
theorem ods7 : ods 7 = some [] := rfl
theorem u64_wf {a : Int} (h : (Lit.int .u64 a).wf = true) : 0 ≤ a ∧ a ≤ 18446744073709551615 := by
  simp [Lit.wf, IntKind.min, IntKind.max, IntKind.signed, IntKind.bits] at h
  omega
theorem shape_of {o : Oq} (h : validB o = true) (hf : FitsOq o) : ∃ l, ods o.kd = some l ∧ Shape o l := by
  obtain ⟨k, i, t, a⟩ := o
  have ha := u64_wf hf.2.2.2
  simp only at ha
  simp only [validB, Bool.and_eq_true, Bool.or_eq_true, decide_eq_true_eq] at h
  obtain ⟨h0, h1, h2, h3⟩ := h
  rcases ods_cases k with ⟨rfl, e⟩ | ⟨rfl, e⟩ | ⟨rfl, e⟩ | ⟨rfl, e⟩ | ⟨rfl, e⟩ | ⟨rfl, e⟩ | ⟨rfl, e⟩ | ⟨_, e⟩
  · rw [show usesB 1 .ix = false from rfl, idx_no] at h1; rw [show usesB 1 .tg = false from rfl, idx_no] at h2
    subst h1 h2
    exact ⟨_, e, .am _ _ rfl ha⟩
  · rw [show usesB 2 .ix = true from rfl, idx_yes] at h1; rw [show usesB 2 .tg = false from rfl, idx_no] at h2
    rw [show usesB 2 .am = false from rfl] at h3; simp at h3
    subst h2 h3
    exact ⟨_, e, .ix _ _ (by omega) h1⟩
  · rw [show usesB 3 .ix = true from rfl, idx_yes] at h1; rw [show usesB 3 .tg = false from rfl, idx_no] at h2
    rw [show usesB 3 .am = false from rfl] at h3; simp at h3
    subst h2 h3
    exact ⟨_, e, .ix _ _ (by omega) h1⟩
  · rw [show usesB 4 .ix = true from rfl, idx_yes] at h1; rw [show usesB 4 .tg = false from rfl, idx_no] at h2
    rw [show usesB 4 .am = false from rfl] at h3; simp at h3
    subst h2 h3
    exact ⟨_, e, .ix _ _ (by omega) h1⟩
  · rw [show usesB 5 .ix = true from rfl, idx_yes] at h1; rw [show usesB 5 .tg = true from rfl, idx_yes] at h2
    rw [show usesB 5 .am = false from rfl] at h3; simp at h3
    subst h3
    exact ⟨_, e, .it _ _ _ rfl h1 h2⟩
  · rw [show usesB 6 .ix = true from rfl, idx_yes] at h1; rw [show usesB 6 .tg = false from rfl, idx_no] at h2
    subst h2
    exact ⟨_, e, .ia _ _ _ rfl h1 ha⟩
  · rw [show usesB 7 .ix = false from rfl, idx_no] at h1; rw [show usesB 7 .tg = false from rfl, idx_no] at h2
    rw [show usesB 7 .am = false from rfl] at h3; simp at h3
    subst h1 h2 h3
    exact ⟨_, e, .no _ rfl⟩
  · rw [e] at h0; cases h0
theorem valid_of {o : Oq} {l : List Od} (h : Shape o l) : ods o.kd = some l ∧ validB o = true := by
  have Y : ∀ n : Int, 0 ≤ n ∧ n ≤ 65535 → idxB n true = true := fun n h => idx_yes.2 h
  have Z : ∀ b, idxB 0 b = true := fun b => by cases b <;> rfl
  cases h with
  | am k a h h0 => subst h; exact ⟨rfl, by simp [validB, ods1, usesB, Z]⟩
  | ix k i h h0 =>
    rcases h with rfl | rfl | rfl
    · exact ⟨rfl, by simp [validB, ods2, usesB, Z, Y i h0]⟩
    · exact ⟨rfl, by simp [validB, ods3, usesB, Z, Y i h0]⟩
    · exact ⟨rfl, by simp [validB, ods4, usesB, Z, Y i h0]⟩
  | it k i t h h0 h1 => subst h; exact ⟨rfl, by simp [validB, ods5, usesB, Z, Y i h0, Y t h1]⟩
  | ia k i a h h0 h1 => subst h; exact ⟨rfl, by simp [validB, ods6, usesB, Z, Y i h0]⟩
  | no k h => subst h; exact ⟨rfl, by simp [validB, ods7, usesB, Z]⟩
/-- Reading back what was laid. -/
theorem fill_enc (o : Oq) : ∀ (l : List Od) (q : Oq) (post : List Int), (∀ d ∈ l, 0 ≤ d.get o ∧ d.get o < 256 ^ d.sz) → fillF l (encF o l ++ post) q = l.foldl (fun q d => d.set q (d.get o)) q
  | [], _, _, _ => rfl
  | d :: l, q, post, h => by
    obtain ⟨h0, h1⟩ := h d (by simp)
    rw [fillF, encF, List.append_assoc, List.take_append_of_le_length (by rw [bigL_len]; exact Nat.le_refl _), List.take_of_length_le (by rw [bigL_len]; exact Nat.le_refl _), valL_bigL h0 h1,
      List.drop_append_of_le_length (by rw [bigL_len]; exact Nat.le_refl _), List.drop_of_length_le (by rw [bigL_len]; exact Nat.le_refl _), List.nil_append, fill_enc o l _ post fun d hd => h d (List.mem_cons_of_mem _ hd)]
    rfl
theorem shape_fill {o : Oq} {l : List Od} (h : Shape o l) (post : List Int) : fillF l (encF o l ++ post) ⟨o.kd, 0, 0, 0⟩ = o := by
  rw [fill_enc]
  · cases h with
    | am k a h h0 => simp [Od.set, Od.get]
    | ix k i h h0 => simp [Od.set, Od.get, wU h0.1 h0.2, wI h0.1 h0.2]
    | it k i t h h0 h1 => simp [Od.set, Od.get, wU h0.1 h0.2, wI h0.1 h0.2, wU h1.1 h1.2, wI h1.1 h1.2]
    | ia k i a h h0 h1 => simp [Od.set, Od.get, wU h0.1 h0.2, wI h0.1 h0.2]
    | no k h => rfl
  · cases h with
    | am k a h h0 => simp [Od.get, Od.sz]; omega
    | ix k i h h0 => simp [Od.get, Od.sz, wU h0.1 h0.2]; omega
    | it k i t h h0 h1 => simp [Od.get, Od.sz, wU h0.1 h0.2, wU h1.1 h1.2]; omega
    | ia k i a h h0 h1 => simp [Od.get, Od.sz, wU h0.1 h0.2]; omega
    | no k h => intro d hd; cases hd
theorem getD_app (p : List Int) (x : Int) (q : List Int) : (p ++ x :: q).getD p.length 0 = x := by simp [List.getD_eq_getElem?_getD]
theorem drop_app (p : List Int) (x : Int) (q : List Int) : (p ++ x :: q).drop (p.length + 1) = q := by
  rw [← List.drop_drop]; simp
/-- P19.4, the one way. -/
theorem dec_enc {o : Oq} (h : validB o = true) (hf : FitsOq o) (pre post : List Int) : decS (pre ++ encL o ++ post) pre.length = (o, (((pre.length + (encL o).length : Nat)) : Int)) := by
  obtain ⟨l, hl, hs⟩ := shape_of h hf
  have hlen := encL_len hl
  have e : pre ++ encL o ++ post = pre ++ o.kd :: (encF o l ++ post) := by simp [encL, hl]
  rw [hlen, e, decS, getD_app, hl]
  simp only
  rw [if_pos (by simp [encF_len]), drop_app, shape_fill hs post]
/-- P19.2: an encoding that is cut off. -/
theorem dec_cut {o : Oq} {l : List Od} (hl : ods o.kd = some l) {k : Nat} (h0 : 1 ≤ k) (hk : k < (encL o).length) : decS ((encL o).take k) 0 = (oqZ, (k : Int)) := by
  rw [encL_len hl] at hk
  obtain ⟨m, rfl⟩ : ∃ m, k = m + 1 := ⟨k - 1, by omega⟩
  have e : (encL o).take (m + 1) = o.kd :: (encF o l).take m := by simp [encL, hl]
  rw [e, decS]
  simp only [List.getD_cons_zero, hl]
  rw [if_neg (by simp [encF_len]; omega)]
  simp [encF_len]
  omega
theorem getF_bd {l : List Int} (h : AllB l) (n : Nat) : 0 ≤ valL (l.take n) ∧ valL (l.take n) < 256 ^ (l.take n).length := valL_bd fun x hx => h x (List.mem_of_mem_take hx)
theorem take_two {l : List Int} (h : AllB l) (h2 : 2 ≤ l.length) : 0 ≤ valL (l.take 2) ∧ valL (l.take 2) ≤ 65535 ∧ bigL (valL (l.take 2)) 2 = l.take 2 := by
  have hb := getF_bd h 2
  have hl : (l.take 2).length = 2 := by simp; omega
  have hv := bigL_valL (l := l.take 2) fun x hx => h x (List.mem_of_mem_take hx)
  rw [hl] at hb hv
  have e : (256 : Int) ^ 2 = 65536 := by decide
  rw [e] at hb
  exact ⟨hb.1, by omega, hv⟩
theorem take_eight {l : List Int} (h : AllB l) (h2 : 8 ≤ l.length) : 0 ≤ valL (l.take 8) ∧ valL (l.take 8) ≤ 18446744073709551615 ∧ bigL (valL (l.take 8)) 8 = l.take 8 := by
  have hb := getF_bd h 8
  have hl : (l.take 8).length = 8 := by simp; omega
  have hv := bigL_valL (l := l.take 8) fun x hx => h x (List.mem_of_mem_take hx)
  rw [hl] at hb hv
  have e : (256 : Int) ^ 8 = 18446744073709551616 := by decide
  rw [e] at hb
  exact ⟨hb.1, by omega, hv⟩
theorem all_drop {l : List Int} (h : AllB l) (n : Nat) : AllB (l.drop n) := fun x hx => h x (List.mem_of_mem_drop hx)
/-- What is read is valid, and laid it is what was read. -/
theorem shape_read {k : Int} {l : List Od} (hk : ods k = some l) (L : List Int) (hL : AllB L) (hs : szs l ≤ L.length) :
    Shape (fillF l L ⟨k, 0, 0, 0⟩) l ∧ encF (fillF l L ⟨k, 0, 0, 0⟩) l = L.take (szs l) := by
  have A := take_two hL
  have E := take_eight hL
  have B := fun h => take_two (all_drop hL 2) h
  have F := fun h => take_eight (all_drop hL 2) h
  have T : ∀ n, L.take 2 ++ (L.drop 2).take n = L.take (2 + n) := fun n => (List.take_add (l := L) (i := 2) (j := n)).symm
  rcases ods_cases k with ⟨rfl, e⟩ | ⟨rfl, e⟩ | ⟨rfl, e⟩ | ⟨rfl, e⟩ | ⟨rfl, e⟩ | ⟨rfl, e⟩ | ⟨rfl, e⟩ | ⟨_, e⟩
  all_goals rw [hk] at e
  all_goals first | cases e; done | (injection e with e; subst e)
  · obtain ⟨a0, a1, a2⟩ := E hs
    exact ⟨.am _ _ rfl ⟨a0, a1⟩, by simp [fillF, encF, Od.get, Od.set, Od.sz, szs, a2]⟩
  · obtain ⟨a0, a1, a2⟩ := A hs
    simp only [fillF, encF, Od.get, Od.set, Od.sz, szs, wI a0 a1, wU a0 a1, a2, List.append_nil]
    exact ⟨.ix _ _ (by omega) ⟨a0, a1⟩, trivial⟩
  · obtain ⟨a0, a1, a2⟩ := A hs
    simp only [fillF, encF, Od.get, Od.set, Od.sz, szs, wI a0 a1, wU a0 a1, a2, List.append_nil]
    exact ⟨.ix _ _ (by omega) ⟨a0, a1⟩, trivial⟩
  · obtain ⟨a0, a1, a2⟩ := A hs
    simp only [fillF, encF, Od.get, Od.set, Od.sz, szs, wI a0 a1, wU a0 a1, a2, List.append_nil]
    exact ⟨.ix _ _ (by omega) ⟨a0, a1⟩, trivial⟩
  · have hs : 4 ≤ L.length := hs
    obtain ⟨a0, a1, a2⟩ := A (by omega)
    obtain ⟨b0, b1, b2⟩ := B (by simp; omega)
    simp only [fillF, encF, Od.get, Od.set, Od.sz, szs, wI a0 a1, wU a0 a1, wI b0 b1, wU b0 b1, a2, b2, List.append_nil]
    exact ⟨.it _ _ _ rfl ⟨a0, a1⟩ ⟨b0, b1⟩, T 2⟩
  · have hs : 10 ≤ L.length := hs
    obtain ⟨a0, a1, a2⟩ := A (by omega)
    obtain ⟨b0, b1, b2⟩ := F (by simp; omega)
    simp only [fillF, encF, Od.get, Od.set, Od.sz, szs, wI a0 a1, wU a0 a1, a2, b2, List.append_nil]
    exact ⟨.ia _ _ _ rfl ⟨a0, a1⟩ ⟨b0, b1⟩, T 8⟩
  · exact ⟨.no _ rfl, by simp [encF, szs]⟩
theorem shape_kd {o : Oq} {l : List Od} (h : Shape o l) : o.kd ≠ 0 := by
  cases h with
  | am k a h h0 => simp [h]
  | ix k i h h0 => simp; omega
  | it k i t h h0 h1 => simp [h]
  | ia k i a h h0 h1 => simp [h]
  | no k h => simp [h]
theorem fill_kd : ∀ (l : List Od) (L : List Int) (q : Oq), (fillF l L q).kd = q.kd
  | [], _, _ => rfl
  | d :: l, L, q => by rw [fillF, fill_kd l]; cases d <;> rfl
/-- P19.4, the other way. -/
theorem enc_dec {L : List Int} (hL : AllB L) (h0 : 0 < L.length) {o : Oq} {n : Int} (h : decS L 0 = (o, n)) :
    (o = oqZ ∧ 1 ≤ n ∧ n ≤ L.length) ∨ (o.kd ≠ 0 ∧ validB o = true ∧ n = (((encL o).length : Nat) : Int) ∧ encL o = L.take (encL o).length ∧ (encL o).length ≤ L.length) := by
  unfold decS at h
  cases hk : ods (L.getD 0 0) with
  | none =>
    rw [hk] at h
    simp only [Prod.mk.injEq] at h
    obtain ⟨rfl, rfl⟩ := h
    exact .inl ⟨rfl, by omega, by omega⟩
  | some l =>
    rw [hk] at h
    simp only at h
    split at h
    · rename_i hs
      simp only [Prod.mk.injEq, Nat.zero_add] at h
      obtain ⟨rfl, rfl⟩ := h
      obtain ⟨r1, r2⟩ := shape_read hk (L.drop (0 + 1)) (all_drop hL _) (by simp; omega)
      obtain ⟨r3, r4⟩ := valid_of r1
      have hlen := encL_len r3
      refine .inr ⟨shape_kd r1, r4, by rw [hlen], ?_, by rw [hlen]; omega⟩
      rw [hlen]
      have : encL (fillF l (L.drop (0 + 1)) ⟨L.getD 0 0, 0, 0, 0⟩) = L.getD 0 0 :: (L.drop 1).take (szs l) := by rw [encL, r3, fill_kd, Option.getD_some, r2]
      rw [this]
      cases L with
      | nil => simp at h0
      | cons b L => simp
    · rename_i hs
      simp only [Prod.mk.injEq] at h
      obtain ⟨rfl, rfl⟩ := h
      exact .inl ⟨rfl, by omega, by omega⟩
end Go.Proofs.YtniehmlklbggdaaDoor
