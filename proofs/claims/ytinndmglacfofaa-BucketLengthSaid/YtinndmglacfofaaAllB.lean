/- All: every entry, by epoch. -/
import Derived.Test.YtinndmglacfofaaNext
import Derived.Test.YtinndmglacfofaaStable
import Derived.Maps.OwnIn
namespace Go.Proofs.Ytinndmglacfofaa
open Go Go.RowKit Go.Deep Go.Shelf
set_option linter.unusedVariables false
set_option linter.unusedSimpArgs false

attribute [local go_sem] Oper.semAt_some

/-! ### the entries of all buckets, epoch by epoch -/
theorem ents_epoch_upto (n : Nat) (L : List Ent) (ep : Int) (q : Nat) (hq : ep % (n : Int) = (q : Int)) : ∀ k, k ≤ n → ((ents n L (upto n k)).filter fun e => e.1 == ep) = if q < k then L.filter fun e => e.1 == ep else []
  | 0, _ => by simp [ents, upto]
  | k + 1, h => by
    rw [upto_succ (by omega), ents_snoc, List.filter_append, ents_epoch_upto n L ep q hq k (by omega)]
    by_cases h1 : q = k
    · subst h1
      rw [if_neg (by omega), if_pos (by omega), bk_epoch hq, List.nil_append]
    · have hz : ((bk n L k).filter fun e => e.1 == ep) = [] := by
        rw [List.filter_eq_nil_iff]
        intro e he
        have := (List.mem_filter.1 he).2
        simp only [beq_iff_eq] at this ⊢
        rintro rfl
        omega
      rw [hz, List.append_nil]
      by_cases h2 : q < k
      · rw [if_pos h2, if_pos (by omega)]
      · rw [if_neg h2, if_neg (by omega)]
theorem ents_stab {n : Nat} (hn : 1 ≤ n) (L : List Ent) : Stab L (ents n L (upto n n)) := fun ep => by
  have h0 := Int.emod_nonneg ep (b := (n : Int)) (by omega)
  have h1 := Int.emod_lt_of_pos ep (b := (n : Int)) (by omega)
  rw [ents_epoch_upto n L ep (ep % (n : Int)).toNat (by omega) n (Nat.le_refl _), if_pos (by omega)]
theorem ents_le {m : Nat} (n : Nat) (L : List Ent) (pre : List (Fin m)) : (ents n L pre).length ≤ pre.length * L.length := by
  induction pre with
  | nil => simp [ents]
  | cons x pre ih =>
    have := bk_len n L x.1
    simp only [ents, List.flatMap_cons, List.length_append, List.length_cons, Nat.add_mul, Nat.one_mul] at ih ⊢
    omega

/-! ### append inside a fence, the source nil or not -/
theorem wpListIn_append_src {F : Fence} {nF : Nat} {P : Program} (w : World) {ops : Array Oper} {rest : List Oper} {o : Oper} {a : Act} {Q : Exit → Act → World → Prop} (hgd : o.guard = none) (s x : Operand) (t : TypeId)
    (ho : o.op = .call { callee := .builtin .append, args := #[s, x], argTypes := #[t, t] })
    (base : Nat) (e : TypeId) (i : TypeInfo) (z : Value) (size bytes : Nat) (ht : P.underlying t = some (.slice e)) (hi : P.info? e = some i) (hz : i.zero = some z)
    (hsize : i.size = size) (hby : i.bytes = bytes) (hzs : z.cells.size = size) (hsz : 0 < size)
    (v : Value) (n : Nat) (xs : List Value) (hs : a.eval s = v) (hown : w.ownsRow base e size v n xs)
    (A : Option Addr) (m c : Nat) (news : List Value) (hx : a.eval x = .slice A m c) (hl : news.length = m * size) (hr : 0 < m → ∃ ad, A = some ad ∧ ∀ j u, news[j]? = some u → w.cell? (ad.add j) = some u) (h1 : ∀ u ∈ news, u.oneCell' = true)
    (h63 : n + m ≤ maxLen) (hbytes : (n + m) * bytes ≤ 140737488355328) (hbase : base ≤ w.heap.size)
    (h : ∀ v' w', w'.ownsRow base e size v' (n + m) (xs ++ news) → w.grownBy w' v.ownBlock → wpListIn F nF P ops Q rest (a.put o.dst v') w') :
    wpListIn F nF P ops Q (o :: rest) a w := by
  refine wpListIn_plain hgd fun K hK => ?_
  obtain ⟨v', w', hrun, h2, h3, h5⟩ := run_append_src (P := P) w base t o.type e i z size bytes ht hi hz hsize hby hzs hsz v n xs hown A m c news hl hr h1 h63 hbytes hbase
  unfold Oper.wpIn
  refine ⟨by simp [Oper.about, ho, resolve, Target.leads, Sem.run_pure], ?_⟩
  rw [Oper.semAt_plain F _ _ (by rw [ho]; intro c hc'; cases hc')]
  simp [execOp, ho, resolve, invoke, builtin, hs, hx, hrun, Result.andThen]
  exact hK _ _ (h v' w' h2 h3)
/-- Behind an append whose source was there before: what the store back owes. -/
theorem boxed_appended0 {W w1 : World} {n₀ B : Nat} {t e : TypeId} {size : Nat} {v v' : Value} {k m : Nat} {xs ys : List Value}
    (hv : Boxed W B t v) (hte : t ≠ e) (hrow : W.ownsRow n₀ e size v k xs) (hn₀ : n₀ ≤ W.heap.size) (hB : n₀ ≤ B)
    (hown' : w1.ownsRow n₀ e size v' m ys) (hgrow : W.grownBy w1 v.ownBlock) :
    Boxed w1 B t v ∧ Boxed (w1.setCell ⟨B, 0, none⟩ v') B t v' ∧ (w1.setCell ⟨B, 0, none⟩ v').ownsRow n₀ e size v' m ys ∧ KeepsOthers W (w1.setCell ⟨B, 0, none⟩ v') ∧ Below n₀ W (w1.setCell ⟨B, 0, none⟩ v') := by
  have hv1 : Boxed w1 B t v := hv.kept hgrow (hv.not_row hte hrow)
  refine ⟨hv1, hv1.set v', hown'.kept (grownBy_setCell' w1 B v') (.inr (hv1.not_row hte hown').symm), ?_, ?_⟩
  · refine (KeepsOthers.of_grownBy hgrow fun j o ej hj => ?_).trans (KeepsOthers.setCell _ _ _)
    rcases hrow.2 with ⟨rfl, _⟩ | ⟨g, cap, cur, rfl, _, hgb, _⟩
    · simp [Value.ownBlock] at ej
    · obtain rfl : g = j := by simpa [Value.ownBlock] using ej
      rw [hgb] at hj; cases hj; rfl
  · refine ((Below.refl n₀ W).grown hgrow hn₀ fun j ej => ?_).setCell (p := ⟨B, 0, none⟩) hB v'
    rcases hrow.2 with ⟨rfl, _⟩ | ⟨g, cap, cur, rfl, hb, _, _⟩
    · simp [Value.ownBlock] at ej
    · obtain rfl : g = j := by simpa [Value.ownBlock] using ej
      exact hb

/-! ### the sort of a nil slice -/
theorem insertion_nil (fv : Value) (w : World) : Calls Try.prog 34 #[.slice none 0 0, .int .i64 0, .int .i64 0, fv] w fun e w' => e = .returned (.tuple #[]) ∧ w = w' := by
  go_enter Try.func34, Try.ntmps34
  go_wp2
  go_loopw [8] (fun s8 wr => s8 = .int .i64 1 ∧ w = wr) (fun _ _ => 0)
  case atStart => exact ⟨rfl, rfl⟩
  case round =>
    obtain ⟨rfl, rfl⟩ := hrel
    go_wp2
    go_end0
    exact ⟨rfl, rfl⟩
theorem stable_nil (fv : Value) (w : World) : Calls Try.prog 31 #[.slice none 0 0, .int .i64 0, fv] w fun e w' => e = .returned (.tuple #[]) ∧ w = w' := by
  have HI := Lib.hid (insertion_nil fv w)
  go_enter Try.func31, Try.ntmps31
  go_wp2
  go_loopw [7, 8] (fun s7 s8 wr => s7 = .int .i64 0 ∧ s8 = .int .i64 20 ∧ w = wr) (fun _ _ _ => 0)
  case atStart => exact ⟨rfl, rfl, rfl⟩
  case round =>
    obtain ⟨rfl, rfl, rfl⟩ := hrel
    go_wp2_with fail
    refine HI.out.mono ?_
    rintro e w2 ⟨rfl, rfl⟩
    go_wp2_with fail
    go_loopw [6] (fun s6 wr => s6 = .int .i64 20 ∧ w = wr) (fun _ _ => 0)
    case atStart => exact ⟨rfl, rfl⟩
    case round =>
      obtain ⟨rfl, rfl⟩ := hrel
      go_wp2
      go_end0
      exact ⟨rfl, rfl⟩
theorem sortstable_nil (fv : Value) (w : World) : Calls Try.prog 26 #[.slice none 0 0, fv] w fun e w' => e = .returned (.tuple #[]) ∧ w = w' := by
  have HI := Lib.hid (stable_nil fv w)
  go_enter Try.func26, Try.ntmps26
  go_wp2_with fail
  refine HI.out.mono ?_
  rintro e w2 ⟨rfl, rfl⟩
  go_wp2_with fail
  go_end0
  exact ⟨rfl, rfl⟩
/-- The sort, whatever row. -/
theorem sort_owned (base : Nat) (v : Value) (l : List Ent) (w : World) (h : w.ownsRow base 46 2 v l.length (flat l)) (hl : l.length ≤ 1000000) :
    Calls Try.prog 26 #[v, cmpF] w fun e w' => e = .returned (.tuple #[]) ∧ ∃ t, Srt t ∧ Stab l t ∧ w'.ownsRow base 46 2 v l.length (flat t) ∧ Kept (fun i => v.ownBlock = some i) w w' := by
  rcases h.2 with ⟨rfl, h2⟩ | ⟨g, cp, cur, rfl, hb, _⟩
  · obtain rfl := List.eq_nil_of_length_eq_zero h2
    exact (sortstable_nil cmpF w).mono fun e w' ⟨he, hw⟩ => ⟨he, [], srt_nil, Stab.refl _, by rw [← hw]; exact h, by rw [← hw]; exact Kept.refl _ _⟩
  · refine (sortstable_any g cp l.length l w (row_of_owns h) hl).mono fun e w' ⟨he, ⟨t, h1, h2, h3⟩, hk⟩ => ⟨he, t, h1, h2, ?_, hk.more (fun i _ h => by rw [h]; rfl)⟩
    rw [List.nil_append, List.append_nil] at h3
    exact h3.owns hb
end Go.Proofs.Ytinndmglacfofaa
