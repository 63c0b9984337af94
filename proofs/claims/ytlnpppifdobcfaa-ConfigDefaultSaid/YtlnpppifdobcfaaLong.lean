/- A long region that only reads and ends in one store: its order's check in one pass over the operations, each of which has a slot of its own. No program in sight. -/
import Derived.Test.YtlnpppifdobcfaaCfg
import Derived.StillTailTactics
namespace Go.Proofs.Ytlnpppifdobcfaa

/-- Operation i writes slot base + i; it looks at slots below base, and at slots of operations that it waits for; it waits for earlier ones only. -/
def stepB (base i : Nat) (o : Oper) : Bool :=
  (match o.dst with | some d => Nat.beq d (base + i) | Option.none => false) && (match o.guard with | Option.none => true | some _ => false) && (match o.op with | .select .. => false | _ => true) &&
  (o.after.toList.all fun e => Region.binds .any e && Nat.blt e.on i) &&
  (o.op.operands.toList.all fun | .tmp t => Nat.blt t base || (o.after.toList.any fun e => Nat.beq (base + e.on) t) | _ => true)
/-- The last one waits for all. -/
def tailB (n : Nat) (o : Oper) : Bool :=
  (match o.op with | .select .. => false | _ => true) && (o.after.toList.all fun e => Region.binds .any e && Nat.blt e.on n) &&
  ((List.range n).all fun i => o.after.toList.any fun e => Nat.beq e.on i)
def stepsB (base : Nat) : Nat → List Oper → Bool
  | _, [] => false
  | i, [o] => tailB i o
  | i, o :: o' :: rest => stepB base i o && stepsB base (i + 1) (o' :: rest)

theorem stepsB_spec {base : Nat} : ∀ {l : List Oper} {s : Nat}, stepsB base s l = true →
    ∃ n, l.length = n + 1 ∧ (∀ i, i < n → ∃ o, l[i]? = some o ∧ stepB base (s + i) o = true) ∧ ∃ o, l[n]? = some o ∧ tailB (s + n) o = true
  | [], _, h => by simp [stepsB] at h
  | [o], s, h => ⟨0, rfl, fun i hi => by omega, o, rfl, by simpa [stepsB] using h⟩
  | o :: o' :: rest, s, h => by
    simp only [stepsB, Bool.and_eq_true] at h
    obtain ⟨n, hn, hh, t, ht, htb⟩ := stepsB_spec h.2
    refine ⟨n + 1, by simpa using hn, fun i hi => ?_, t, by simpa using ht, by rw [show s + (n + 1) = s + 1 + n by omega]; exact htb⟩
    rcases i with _ | i
    · exact ⟨o, rfl, h.1⟩
    · obtain ⟨x, hx, hxb⟩ := hh i (by omega)
      exact ⟨x, by simpa using hx, by rw [show s + (i + 1) = s + 1 + i by omega]; exact hxb⟩

theorem stepB_spec {base i : Nat} {o : Oper} (h : stepB base i o = true) :
    o.dst = some (base + i) ∧ o.guard = Option.none ∧ (match o.op with | .select .. => false | _ => true) = true ∧ (∀ e ∈ o.after, Region.binds .any e = true ∧ e.on < i) ∧
      ∀ t : Nat, Operand.tmp t ∈ o.op.operands → t < base ∨ ∃ e ∈ o.after, base + e.on = t := by
  simp only [stepB, Bool.and_eq_true] at h
  obtain ⟨⟨⟨⟨h1, h2⟩, h3⟩, h4⟩, h5⟩ := h
  refine ⟨?_, ?_, h3, fun e he => ?_, fun t ht => ?_⟩
  · cases hd : o.dst with
    | none => rw [hd] at h1; cases h1
    | some d => rw [hd] at h1; rw [Nat.eq_of_beq_eq_true h1]
  · cases hd : o.guard with
    | none => rfl
    | some d => rw [hd] at h2; cases h2
  · have := List.all_eq_true.1 h4 e (by simpa using he)
    simp only [Bool.and_eq_true] at this
    exact ⟨this.1, by simpa using this.2⟩
  · have := List.all_eq_true.1 h5 _ (by simpa using ht)
    simp only [Bool.or_eq_true] at this
    rcases this with h | h
    · exact .inl (by simpa using h)
    · obtain ⟨e, he, hb⟩ := List.any_eq_true.1 h
      exact .inr ⟨e, by simpa using he, Nat.eq_of_beq_eq_true hb⟩
theorem tailB_spec {n : Nat} {o : Oper} (h : tailB n o = true) :
    (match o.op with | .select .. => false | _ => true) = true ∧ (∀ e ∈ o.after, Region.binds .any e = true ∧ e.on < n) ∧ ∀ i, i < n → ∃ e ∈ o.after, e.on = i := by
  simp only [tailB, Bool.and_eq_true] at h
  obtain ⟨⟨h1, h2⟩, h3⟩ := h
  refine ⟨h1, fun e he => ?_, fun i hi => ?_⟩
  · have := List.all_eq_true.1 h2 e (by simpa using he)
    simp only [Bool.and_eq_true] at this
    exact ⟨this.1, by simpa using this.2⟩
  · have := List.all_eq_true.1 h3 i (by simpa using hi)
    obtain ⟨e, he, hb⟩ := List.any_eq_true.1 this
    exact ⟨e, by simpa using he, Nat.eq_of_beq_eq_true hb⟩

/-- The first k are listed. -/
def Listed (m k : Nat) (listed : Array Bool) : Prop := listed.size = m ∧ ∀ j, j < m → listed[j]? = some (decide (j < k))
theorem Listed.getD {m k : Nat} {listed : Array Bool} (h : Listed m k listed) {j : Nat} (hj : j < m) (b : Bool) : listed.getD j b = decide (j < k) := by
  rw [Array.getD_eq_getD_getElem?, h.2 j hj]; rfl
theorem Listed.set {m k : Nat} {listed : Array Bool} (h : Listed m k listed) (hk : k < m) : Listed m (k + 1) (listed.setIfInBounds k true) := by
  refine ⟨by simpa using h.1, fun j hj => ?_⟩
  rw [Array.getElem?_setIfInBounds]
  by_cases e : k = j
  · subst e; simp [h.1, hk]
  · rw [if_neg e, h.2 j hj]
    congr 1
    by_cases h1 : j < k
    · simp [h1, show j < k + 1 by omega]
    · simp [h1, show ¬ j < k + 1 by omega]
theorem Listed.start (m : Nat) : Listed m 0 (Array.replicate m false) := ⟨by simp, fun j hj => by simp [hj]⟩

/-- Such a region: n operations and the last. -/
def LongAs (l : List Oper) (base n : Nat) : Prop := l.length = n + 1 ∧ (∀ i, i < n → ∃ o, l[i]? = some o ∧ stepB base i o = true) ∧ ∃ o, l[n]? = some o ∧ tailB n o = true

section
variable {l : List Oper} {n base : Nat}

theorem long_ready (hA : LongAs l base n) {k : Nat} {listed : Array Bool} (hL : Listed (n + 1) k listed) (hk : k < n) : k ∈ Region.ready .any l.toArray listed := by
  obtain ⟨_, hh, _⟩ := hA
  obtain ⟨o, ho, hb⟩ := hh k hk
  obtain ⟨_, _, _, he, _⟩ := stepB_spec hb
  refine mem_ready.2 ⟨by rw [hL.getD (by omega)]; simp, o, by simpa using ho, fun e hm _ => ?_⟩
  have := (he e hm).2
  rw [hL.getD (by omega)]
  simpa using this

theorem long_free (hA : LongAs l base n) {k : Nat} {listed : Array Bool} (hL : Listed (n + 1) k listed) (hk : k < n) : Region.free .any l.toArray listed k = true := by
  obtain ⟨hlen, hh, ht⟩ := hA
  obtain ⟨o, ho, hb⟩ := hh k hk
  obtain ⟨hd, hg, _, he, hop⟩ := stepB_spec hb
  have ho' : l.toArray[k]? = some o := by simpa using ho
  unfold Region.free
  rw [ho']
  simp only [List.all_eq_true, List.mem_range]
  intro j hj
  have hj' : j < n + 1 := by simpa [hlen] using hj
  by_cases hjk : j = k
  · simp [hjk]
  · rcases Nat.lt_or_ge j k with h | h
    · rw [hL.getD hj']; simp [h]
    · by_cases hjn : j = n
      · obtain ⟨t, htn, htb⟩ := ht
        obtain ⟨_, h2, h3⟩ := tailB_spec htb
        obtain ⟨e, hem, hon⟩ := h3 k hk
        have : l.toArray[j]? = some t := by rw [hjn]; simpa using htn
        rw [this]
        have ha : (t.after.any fun e => Region.binds .any e && e.on == k) = true := Array.any_eq_true'.2 ⟨e, hem, by simp [(h2 e hem).1, hon]⟩
        simp [ha]
      · obtain ⟨x, hx, hxb⟩ := hh j (by omega)
        obtain ⟨xd, xg, _, xe, xop⟩ := stepB_spec hxb
        have : l.toArray[j]? = some x := by simpa using hx
        rw [this]
        by_cases hw : ∃ e ∈ x.after, e.on = k
        · obtain ⟨e, hem, hon⟩ := hw
          have ha : (x.after.any fun e => Region.binds .any e && e.on == k) = true := Array.any_eq_true'.2 ⟨e, hem, by simp [(xe e hem).1, hon]⟩
          simp [ha]
        · have h1 : base + k ∉ x.looksAt l.toArray := by
            intro hc
            simp only [Oper.looksAt, xg, List.append_nil, List.mem_filterMap] at hc
            obtain ⟨p, hp, hpt⟩ := hc
            split at hpt
            · rename_i t
              obtain rfl := Option.some.inj hpt
              rcases xop _ (by simpa using hp) with h | ⟨e, hem, hon⟩
              · omega
              · exact hw ⟨e, hem, by omega⟩
            · cases hpt
          have h2 : base + j ∉ o.looksAt l.toArray := by
            intro hc
            simp only [Oper.looksAt, hg, List.append_nil, List.mem_filterMap] at hc
            obtain ⟨p, hp, hpt⟩ := hc
            split at hpt
            · rename_i t
              obtain rfl := Option.some.inj hpt
              rcases hop _ (by simpa using hp) with h | ⟨e, hem, hon⟩
              · omega
              · have := (he e hem).2; omega
            · cases hpt
          have ha : o.apart l.toArray x = true := by
            unfold Oper.apart
            rw [hd, xd]
            simp [h1, h2]
            omega
          simp [ha]

theorem long_ready_none (hA : LongAs l base n) {listed : Array Bool} (hL : Listed (n + 1) (n + 1) listed) : Region.ready .any l.toArray listed = [] := by
  obtain ⟨hlen, _, _⟩ := hA
  unfold Region.ready
  rw [List.filter_eq_nil_iff]
  intro i hi
  have hi' : i < n + 1 := by simpa [hlen] using hi
  rw [hL.getD hi']
  simp [hi']

theorem long_ready_tail (hA : LongAs l base n) {listed : Array Bool} (hL : Listed (n + 1) n listed) : Region.ready .any l.toArray listed = [n] := by
  obtain ⟨hlen, _, ht⟩ := hA
  obtain ⟨t, htn, htb⟩ := ht
  obtain ⟨_, h2, _⟩ := tailB_spec htb
  have ht' : l.toArray[n]? = some t := by simpa using htn
  unfold Region.ready
  rw [show l.toArray.size = n + 1 by simpa using hlen, List.range_succ, List.filter_append]
  have hE : ((List.range n).filter fun i => !listed.getD i true && ((l.toArray[i]?).map (·.after.all fun e => !Region.binds .any e || listed.getD e.on false)).getD false) = [] := by
    rw [List.filter_eq_nil_iff]
    intro i hi
    have hi' : i < n := by simpa using hi
    rw [hL.getD (show i < n + 1 by omega)]
    simp [hi']
  have hB : (!listed.getD n true && ((l.toArray[n]?).map (·.after.all fun e => !Region.binds .any e || listed.getD e.on false)).getD false) = true := by
    rw [hL.getD (show n < n + 1 by omega), ht']
    have : (t.after.all fun e => !Region.binds .any e || listed.getD e.on false) = true := Array.all_eq_true_iff_forall_mem.2 fun e he => by
      have := (h2 e he).2
      rw [hL.getD (show e.on < n + 1 by omega)]
      simp [this]
    simp only [Option.map_some, Option.getD_some, this]
    simp
  rw [hE, List.filter_cons_of_pos (p := fun i => !listed.getD i true && ((l.toArray[i]?).map (·.after.all fun e => !Region.binds .any e || listed.getD e.on false)).getD false) hB]
  rfl

theorem long_seq (hA : LongAs l base n) {listed : Array Bool} (hL : Listed (n + 1) n listed) : Region.seqB .any l.toArray 1 n listed = true := by
  simp only [Region.seqB, Bool.and_eq_true, decide_eq_true_eq]
  exact ⟨long_ready_tail hA hL, by rw [long_ready_none hA (hL.set (by omega))]; rfl⟩

theorem long_head (hA : LongAs l base n) : ∀ (f k : Nat) (listed : Array Bool), k + f = n → Listed (n + 1) k listed → Region.lexHead .any l.toArray 1 f k listed = true
  | 0, k, listed, hk, hL => by
    obtain rfl : k = n := by omega
    exact long_seq hA hL
  | f + 1, k, listed, hk, hL => by
    simp only [Region.lexHead, Bool.and_eq_true]
    exact ⟨⟨by simpa using long_ready hA hL (by omega), long_free hA hL (by omega)⟩, long_head hA f (k + 1) _ (by omega) (hL.set (by omega))⟩

theorem long_noSelect (hA : LongAs l base n) : Region.noSelect l.toArray = true := by
  obtain ⟨hlen, hh, ht⟩ := hA
  unfold Region.noSelect
  refine Array.all_eq_true_iff_forall_mem.2 fun o ho => ?_
  obtain ⟨i, hi⟩ := List.getElem?_of_mem (by simpa using ho : o ∈ l)
  have hil : i < n + 1 := by
    have := (List.getElem?_eq_some_iff.1 hi).1
    omega
  rcases Nat.lt_or_ge i n with h | h
  · obtain ⟨x, hx, hb⟩ := hh i h
    obtain rfl : x = o := Option.some.inj (hx.symm.trans hi)
    exact (stepB_spec hb).2.2.1
  · obtain ⟨x, hx, hb⟩ := ht
    obtain rfl : i = n := by omega
    obtain rfl : x = o := Option.some.inj (hx.symm.trans hi)
    exact (tailB_spec hb).1

theorem long_sink (hA : LongAs l base n) : Region.sinkB .any l.toArray n = true := by
  obtain ⟨_, _, ht⟩ := hA
  obtain ⟨t, htn, htb⟩ := ht
  obtain ⟨_, h2, h3⟩ := tailB_spec htb
  have ht' : l.toArray[n]? = some t := by simpa using htn
  refine List.all_eq_true.2 fun i hi => List.any_eq_true.2 ⟨n, by simp, ?_⟩
  have hi' : i < n := by simpa using hi
  obtain ⟨e, hem, hon⟩ := h3 i hi'
  have ha : (t.after.any fun e => Region.binds .any e && e.on == i) = true := Array.any_eq_true'.2 ⟨e, hem, by simp [(h2 e hem).1, hon]⟩
  simp only [Bool.and_eq_true, decide_eq_true_eq]
  exact ⟨hi', by unfold Region.waitsFor; rw [ht']; exact ha⟩
end

theorem long_lexTail {l : List Oper} {n base : Nat} (hlen : l.length = n + 1) (h : stepsB base 0 l = true) : Region.lexTailB .any l.toArray n = true := by
  obtain ⟨m, hm, hh, ht⟩ := stepsB_spec h
  obtain rfl : m = n := by omega
  simp only [Nat.zero_add] at hh ht
  simp only [Region.lexTailB, Bool.and_eq_true, decide_eq_true_eq]
  refine ⟨⟨⟨⟨long_noSelect (base := base) ⟨hm, hh, ht⟩, by simp [hm]⟩, long_sink (base := base) ⟨hm, hh, ht⟩⟩, ?_⟩, ?_⟩
  · refine List.all_eq_true.2 fun t h => ?_
    have : t < m + 1 := by simpa [hm] using h
    simp [show t ≤ m by omega]
  · have hs : l.toArray.size = m + 1 := by simpa using hm
    rw [hs, show m + 1 - m = 1 by omega]
    exact long_head (base := base) ⟨hm, hh, ht⟩ m 0 _ (by omega) (Listed.start _)

/-- The law: walk the operations but the last in the text's order, in one world; then the last. 'ops' is left a name, so that the walk does not carry the text with it. -/
theorem wp_region_long {P : Program} {id : Nat} {Q : Exit → Act → World → Prop} {a : Act} {w : World} {l : List Oper} {o : Oper} (n base : Nat) (hm : P.follows .mixedOrders = true) (hlen : l.length = n + 1) (hB : stepsB base 0 l = true)
    (hD : l.drop n = [o]) (h : ∀ (ops : Array Oper) (W : World), W = w.drew → wpStill P ops W (fun a' => wpList P ops Q [o] a' W) (l.take n) a) : (Code.region id l.toArray true).wp P Q a w :=
  wp_region_still_tail n hm (long_lexTail hlen hB) (by rw [hD]; exact h _ _ rfl)
end Go.Proofs.Ytlnpppifdobcfaa
