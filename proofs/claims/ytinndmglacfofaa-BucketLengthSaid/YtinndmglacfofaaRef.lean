/- The reference's ring: its block, the epochs' row, the items' row. Put, Next, Load. -/
import Derived.Test.YtinndmglacfofaaNext
import Derived.Test.YtinndmglacfofaaInts
namespace Go.Proofs.Ytinndmglacfofaa
open Go Go.RowKit Go.Deep
set_option linter.unusedVariables false
set_option linter.unusedSimpArgs false

def epsOf (L : List Ent) : List Value := (L.map (·.1)).map (Value.int .i64)
def itsOf (L : List Ent) : List Value := (L.map (·.2)).map (Value.int .i64)
theorem eps_app (L M : List Ent) : epsOf (L ++ M) = epsOf L ++ epsOf M := by simp [epsOf]
theorem its_app (L M : List Ent) : itsOf (L ++ M) = itsOf L ++ itsOf M := by simp [itsOf]
structure RefP (w : World) (r : Nat) (se si : Value) (L : List Ent) : Prop where
  own : Blk w r 29 #[se, si]
  eps : w.ownsRow 0 3 1 se L.length (epsOf L)
  its : w.ownsRow 0 3 1 si L.length (itsOf L)
  apart : ∀ q, se.ownBlock = some q → si.ownBlock ≠ some q
/-- The reference's ring at r holds L; S are its blocks. -/
def Ref (w : World) (r : Nat) (S : Nat → Prop) (L : List Ent) : Prop :=
  ∃ se si, RefP w r se si L ∧ ∀ i, S i ↔ i = r ∨ se.ownBlock = some i ∨ si.ownBlock = some i
theorem owns_int {w : World} {base : Nat} {s : Value} {n : Nat} {xs : List Value} (h : w.ownsRow base 3 1 s n xs) : ∃ a cp, s = .slice a n cp ∧ n ≤ cp ∧ cp ≤ maxLen := by
  rcases h.2 with ⟨rfl, rfl⟩ | ⟨g, cp, cur, rfl, _, _, h1, h2, _⟩
  · exact ⟨none, 0, rfl, by omega, by unfold maxLen; omega⟩
  · exact ⟨_, cp, rfl, h1, h2⟩
/-- An owned row's cell. -/
theorem owns_cell {w : World} {base : Nat} {a : Option Addr} {n m cp : Nat} {xs : List Value} (h : w.ownsRow base 3 1 (.slice a n cp) m xs) {i : Nat} {v : Value} (hi : xs[i]? = some v) :
    ∃ g, a = some ⟨g, 0, none⟩ ∧ w.cell? ⟨g, i, none⟩ = some v := by
  rcases h.2 with ⟨h1, h2⟩ | ⟨g, cp', cur, h1, _⟩
  · have := h.1
    rw [h2] at this
    obtain rfl := List.eq_nil_of_length_eq_zero (by simpa using this)
    simp at hi
  · injection h1 with h1 _ _
    subst h1
    refine ⟨g, rfl, ?_⟩
    have := h.cells (g := g) rfl i v hi
    rwa [add_plain, Nat.zero_add] at this
section
variable {w w' : World} {r : Nat} {se si : Value} {L : List Ent} {S T : Nat → Prop}
theorem RefP.cells (h : RefP w r se si L) : w.cell? ⟨r, 0, none⟩ = some se ∧ w.cell? ⟨r, 1, none⟩ = some si := ⟨h.own.cell 0, h.own.cell 1⟩
theorem RefP.not (h : RefP w r se si L) : se.ownBlock ≠ some r ∧ si.ownBlock ≠ some r :=
  ⟨fun e => absurd (owns_tag h.eps e h.own) (by decide), fun e => absurd (owns_tag h.its e h.own) (by decide)⟩
theorem RefP.same (h : RefP w r se si L) (hb : w'.heap[r]? = w.heap[r]?) (he : ∀ i, se.ownBlock = some i → w'.heap[i]? = w.heap[i]?) (hi : ∀ i, si.ownBlock = some i → w'.heap[i]? = w.heap[i]?) : RefP w' r se si L :=
  ⟨hb.trans h.own, owns_same h.eps he, owns_same h.its hi, h.apart⟩
theorem Ref.lt (h : Ref w r S L) : ∀ i, S i → i < w.heap.size := fun i hi => by
  obtain ⟨se, si, hp, hS⟩ := h
  rcases (hS i).1 hi with rfl | hq | hq
  · exact hp.own.lt
  · exact (hp.eps.lt i hq).2
  · exact (hp.its.lt i hq).2
theorem Ref.same (h : Ref w r S L) (hb : ∀ i, S i → w'.heap[i]? = w.heap[i]?) : Ref w' r S L := by
  obtain ⟨se, si, hp, hS⟩ := h
  exact ⟨se, si, hp.same (hb r ((hS r).2 (.inl rfl))) (fun i hi => hb i ((hS i).2 (.inr (.inl hi)))) (fun i hi => hb i ((hS i).2 (.inr (.inr hi)))), hS⟩
theorem Ref.kept (h : Ref w r S L) (k : Kept T w w') (hT : ∀ i, S i → ¬ T i) : Ref w' r S L := h.same fun i hi => k.block i (h.lt i hi) (hT i hi)
theorem Ref.below (h : Ref w r S L) (k : Below w.heap.size w w') : Ref w' r S L := h.same fun i hi => k.block i (h.lt i hi)
theorem Ref.alloc (h : Ref w r S L) (o : Obj) : Ref (w.alloc o) r S L := h.below ((Below.refl _ _).alloc (Nat.le_refl _) o)
theorem Ref.drewN (h : Ref w r S L) (m : Nat) : Ref (w.drewN m) r S L := h.same fun _ _ => rfl
theorem Ref.drew (h : Ref w r S L) : Ref w.drew r S L := h.same fun _ _ => rfl
theorem Ref.self (h : Ref w r S L) : S r := by
  obtain ⟨se, si, hp, hS⟩ := h
  exact (hS r).2 (.inl rfl)
theorem Ref.new (w : World) : Ref (w.alloc (.cells #[.slice none 0 0, .slice none 0 0] 29)) w.heap.size (fun i => i = w.heap.size) [] :=
  ⟨.slice none 0 0, .slice none 0 0, ⟨Blk.new _ _ _, World.ownsRow_nil _ _ _ _, World.ownsRow_nil _ _ _ _, fun q h => by cases h⟩, fun i => by simp [Value.ownBlock]⟩
end

/-- Len of the items, as a law reads it. -/
theorem Ref.items {w : World} {r : Nat} {S : Nat → Prop} {L : List Ent} (h : Ref w r S L) : ∃ a cp, w.cell? ⟨r, 1, none⟩ = some (.slice a L.length cp) := by
  obtain ⟨se, si, hp, hS⟩ := h
  obtain ⟨a, cp, rfl, _, _⟩ := owns_int hp.its
  exact ⟨a, cp, hp.cells.2⟩

theorem owns_src {w : World} {base : Nat} {a : Option Addr} {n cp : Nat} {xs : List Value} (h : w.ownsRow base 3 1 (.slice a n cp) n xs) : 0 < n → ∃ ad, a = some ad ∧ ∀ j u, xs[j]? = some u → w.cell? (ad.add j) = some u := fun h0 => by
  rcases h.2 with ⟨h1, h2⟩ | ⟨g, cp', cur, h1, _⟩
  · omega
  · injection h1 with h1 _ _
    subst h1
    exact ⟨_, rfl, fun j u hu => h.cells (g := g) rfl j u hu⟩
theorem owns_empty_at (w : World) (k : Nat) (hk : w.heap.size = k) : (w.alloc (.cells #[] 3)).ownsRow k 3 1 (.slice (some ⟨k, 0, none⟩) 0 0) 0 [] := by
  subst hk
  exact owns_empty (Blk.new w _ _) (Nat.le_refl _)
theorem size_put (w : World) (p : Addr) (v : Value) : (w.setCell p v).heap.size = w.heap.size := by simp
theorem one_eps (L : List Ent) : ∀ u ∈ epsOf L, u.oneCell' = true := by
  intro u hu
  simp only [epsOf, List.map_map, List.mem_map] at hu
  obtain ⟨x, _, rfl⟩ := hu
  rfl
theorem one_its (L : List Ent) : ∀ u ∈ itsOf L, u.oneCell' = true := by
  intro u hu
  simp only [itsOf, List.map_map, List.mem_map] at hu
  obtain ⟨x, _, rfl⟩ := hu
  rfl
theorem RefP.put1 {w w2 : World} {r : Nat} {se si : Value} {L : List Ent} (h : RefP w r se si L) (hb : Below w.heap.size w w2) (v : Value) : Blk (w2.setCell ⟨r, 0, none⟩ v) r 29 #[v, si] := by
  have := Blk.set_ (w := w2) (g := r) (t := 29) (cs := #[se, si]) ((hb.block r h.own.lt).trans h.own) 0 v
  simpa using this
theorem RefP.put1_its {w w2 : World} {r : Nat} {se si : Value} {L : List Ent} (h : RefP w r se si L) (hb : Below w.heap.size w w2) (v : Value) : (w2.setCell ⟨r, 0, none⟩ v).ownsRow 0 3 1 si L.length (itsOf L) :=
  owns_same h.its fun i hi => by
    rw [Below.heap_setCell _ _ _ _ (fun e => h.not.2 (by rw [hi]; exact congrArg some e))]
    exact hb.block i (h.its.lt i hi).2
theorem set0_cell1 {w : World} {r : Nat} {u : Value} (v : Value) (h : w.cell? ⟨r, 1, none⟩ = some u) : (w.setCell ⟨r, 0, none⟩ v).cell? ⟨r, 1, none⟩ = some u :=
  (World.cell?_setCell_other (a := ⟨r, 0, none⟩) (b := ⟨r, 1, none⟩) w v (fun e => by injection e with _ e; omega)).trans h
/-- What two stores of grown rows leave. -/
theorem RefP.put2 {w w2 w4 : World} {r n : Nat} {se si v2 v4 : Value} {L L' : List Ent} (h : RefP w r se si L) (hb : Below w.heap.size w w2) (h2 : w2.ownsRow w.heap.size 3 1 v2 n (epsOf L')) (hn : L'.length = n)
    (hb4 : Below w2.heap.size (w2.setCell ⟨r, 0, none⟩ v2) w4) (h4 : w4.ownsRow w2.heap.size 3 1 v4 n (itsOf L')) :
    RefP (w4.setCell ⟨r, 1, none⟩ v4) r v2 v4 L' ∧ Kept (fun i => i = r) w (w4.setCell ⟨r, 1, none⟩ v4) := by
  have hrl := h.own.lt
  have hsz := hb.size
  have hsz3 : (w2.setCell ⟨r, 0, none⟩ v2).heap.size = w2.heap.size := by simp
  have hb4s := hb4.size
  have hB := h.put1 hb v2
  subst hn
  refine ⟨⟨?_, ?_, ?_, ?_⟩, ?_⟩
  · have := Blk.set_ (w := w4) (g := r) (t := 29) (cs := #[v2, si]) ((hb4.block r (by omega)).trans hB) 1 v4
    simpa using this
  · refine owns_base (B := 0) (owns_same h2 fun i hi => ?_) (Nat.zero_le _)
    have hl := h2.lt i hi
    rw [Below.heap_setCell _ _ _ _ (fun e => by have e : i = r := e; omega), hb4.block i (by omega), Below.heap_setCell _ _ _ _ (fun e => by have e : i = r := e; omega)]
  · refine owns_base (B := 0) (owns_same h4 fun i hi => ?_) (Nat.zero_le _)
    have hl := h4.lt i hi
    rw [Below.heap_setCell _ _ _ _ (fun e => by have e : i = r := e; omega)]
  · intro q hq hq4
    have l2 := (h2.lt q hq).2
    have l4 := (h4.lt q hq4).1
    omega
  · have k1 : Kept (fun i => i = r) w (w2.setCell ⟨r, 0, none⟩ v2) := (Kept.of_below (S := fun i => i = r) hb).setCell (p := ⟨r, 0, none⟩) (.inl rfl) _
    exact (k1.trans (Kept.of_below (S := fun i => i = r) (by rw [hsz3]; exact hb4)) (fun _ _ h => h)).setCell (p := ⟨r, 1, none⟩) (.inl rfl) _

theorem ref_put_no (p : Option Addr) (ep it : Int) (w : World) (h : ep < 0 ∨ 1099511627776 < ep) :
    Calls Try.prog 24 #[.pointer p, .int .i64 ep, .int .i64 it] w fun e w' => e = .returned (.bool false) ∧ w = w' := by
  by_cases h0 : ep < 0
  · clear h
    go_enter Try.func24, Try.ntmps24
    go_wp2
    go_ret
    exact ⟨rfl, rfl⟩
  · have h1 : 1099511627776 < ep := by omega
    clear h
    go_enter Try.func24, Try.ntmps24
    go_wp2
    go_ret
    exact ⟨rfl, rfl⟩

set_option maxHeartbeats 1600000 in
theorem ref_put_any (r : Nat) (S : Nat → Prop) (L : List Ent) (ep it : Int) (w : World) (h : Ref w r S L) (h0 : 0 ≤ ep) (h1 : ep ≤ 1099511627776) (hL : L.length ≤ 100000) :
    Calls Try.prog 24 #[.pointer (some ⟨r, 0, none⟩), .int .i64 ep, .int .i64 it] w fun e w' => e = .returned (.bool true) ∧ ∃ S', Ref w' r S' (L ++ [(ep, it)]) ∧ (∀ i, S' i → S i ∨ w.heap.size ≤ i) ∧ Kept S w w' := by
  obtain ⟨se, si, hp, hS⟩ := h
  obtain ⟨ae, ce, rfl, hce, hce2⟩ := owns_int hp.eps
  obtain ⟨ai, ci, rfl, hci, hci2⟩ := owns_int hp.its
  obtain ⟨x0, x1⟩ := hp.cells
  have hrl := hp.own.lt
  have z0 : w.frozen? ⟨r, 0, none⟩ = false := hp.own.frozen 0
  have HP := Lib.hid hp
  have HSS := Lib.hid hS
  obtain ⟨i0, hi0, hz0, hs0, hb0⟩ := int_app
  have ha0 : ¬ ep < 0 := by omega
  have ha1 : ¬ 1099511627776 < ep := by omega
  clear hp hS h0 h1
  obtain ⟨n, hn⟩ : ∃ n, L.length = n := ⟨_, rfl⟩
  rw [hn] at x0 x1 hL hce hci
  have HN := Lib.hid hn
  have HE : Hid (w.ownsRow 0 3 1 (.slice ae n ce) n (epsOf L)) := Lib.hid (by have := HP.out.eps; rwa [hn] at this)
  have HI : Hid (w.ownsRow 0 3 1 (.slice ai n ci) n (itsOf L)) := Lib.hid (by have := HP.out.its; rwa [hn] at this)
  clear hn
  have hal : ∀ (k : Int), (Value.int .i64 k).oneCell' = true := fun k => rfl
  go_enter Try.func24, Try.ntmps24
  go_wp2_with (at_builtin; first
    | (refine wpList_append_src _ rfl (.tmp 14) (.tmp 18) 27 rfl w.heap.size 3 i0 _ 1 8 Try.underlying27 hi0 hz0 hs0 hb0 rfl Nat.one_pos _ 0 [] rfl (owns_empty (Blk.new w _ _) (Nat.le_refl _)) ae n ce (epsOf L) rfl (by rw [epsOf, List.length_map, List.length_map, HN.out]; omega) (owns_src (HE.out.alloc _)) (one_eps L) (by unfold maxLen; omega) (by omega) (by simp) ?_
       intro v1 w1 ho1 hg1 hv1
       have B1 : Below w.heap.size w w1 := ((Below.refl _ w).alloc (Nat.le_refl _) _).grown hg1 (by simp) (fun q hq => by injection hq with hq; have hq : w.heap.size = q := hq; omega)
       rw [Nat.zero_add, List.nil_append] at ho1)
    | (refine wpList_append_src _ rfl (.tmp 19) (.tmp 21) 27 rfl w.heap.size 3 i0 _ 1 8 Try.underlying27 hi0 hz0 hs0 hb0 rfl Nat.one_pos v1 n (epsOf L) rfl (ho1.alloc _) (some ⟨w1.heap.size, 0, none⟩) 1 1 [.int .i64 ep] rfl rfl (fun _ => ⟨_, rfl, cell_one_new w1 _ _⟩) (by simp [Value.oneCell']) (by unfold maxLen; omega) (by omega) (by have := B1.size; simp; omega) ?_
       intro v2 w2 ho2 hg2 hv2
       have B2 : Below w.heap.size w w2 := (B1.alloc B1.size _).grown hg2 (by have := B1.size; simp; omega) (fun q hq => (ho1.lt q hq).1)
       have y0 : w2.cell? ⟨r, 0, none⟩ = some (.slice ae n ce) := (B2.cell (p := ⟨r, 0, none⟩) hrl).trans x0
       have y1 : w2.cell? ⟨r, 1, none⟩ = some (.slice ai n ci) := (B2.cell (p := ⟨r, 1, none⟩) hrl).trans x1
       have z2 : w2.frozen? ⟨r, 0, none⟩ = false := (World.frozen?_of_block (w := w) (B2.block r hrl)).trans z0
       obtain ⟨a2, c2, rfl, -, -⟩ := owns_int ho2
       have HO2 := Lib.hid ho2
       have y2 : (w2.setCell ⟨r, 0, none⟩ (.slice a2 (n + 1) c2)).cell? ⟨r, 1, none⟩ = some (.slice ai n ci) := set0_cell1 _ y1
       have y3 : ((w2.setCell ⟨r, 0, none⟩ (.slice a2 (n + 1) c2)).alloc (.cells #[] 3)).cell? ⟨r, 1, none⟩ = some (.slice ai n ci) := cell_alloc_some _ y2
       have HB2 := Lib.hid B2
       clear ho2 hg2 hv2)
    | (refine wpList_append_src _ rfl (.tmp 26) (.tmp 30) 27 rfl w2.heap.size 3 i0 _ 1 8 Try.underlying27 hi0 hz0 hs0 hb0 rfl Nat.one_pos _ 0 [] rfl (owns_empty_at (w2.setCell ⟨r, 0, none⟩ (.slice a2 (n + 1) c2)) _ (size_put _ _ _)) ai n ci (itsOf L) rfl (by rw [itsOf, List.length_map, List.length_map, HN.out]; omega) (owns_src (World.ownsRow.alloc (by have := HP.out.put1_its HB2.out (.slice a2 (n + 1) c2); rwa [HN.out] at this) _)) (one_its L) (by unfold maxLen; omega) (by omega) (by simp) ?_
       intro v3 w3 ho3 hg3 hv3
       have B3 : Below w2.heap.size (w2.setCell ⟨r, 0, none⟩ (.slice a2 (n + 1) c2)) w3 := ((Below.refl _ _).alloc (Nat.le_of_eq (size_put _ _ _).symm) _).grown hg3 (by simp) (fun q hq => by injection hq with hq; have hq : w2.heap.size = q := hq; omega)
       rw [Nat.zero_add, List.nil_append] at ho3)
    | (refine wpList_append_src _ rfl (.tmp 31) (.tmp 33) 27 rfl w2.heap.size 3 i0 _ 1 8 Try.underlying27 hi0 hz0 hs0 hb0 rfl Nat.one_pos v3 n (itsOf L) rfl (ho3.alloc _) (some ⟨w3.heap.size, 0, none⟩) 1 1 [.int .i64 it] rfl rfl (fun _ => ⟨_, rfl, cell_one_new w3 _ _⟩) (by simp [Value.oneCell']) (by unfold maxLen; omega) (by omega) (by have := B3.size; simp at this ⊢; omega) ?_
       intro v4 w4 ho4 hg4 hv4
       have B4 : Below w2.heap.size (w2.setCell ⟨r, 0, none⟩ (.slice a2 (n + 1) c2)) w4 := (B3.alloc (Nat.le_trans (Nat.le_of_eq (size_put _ _ _).symm) B3.size) _).grown hg4 (by have := B3.size; simp at this ⊢; omega) (fun q hq => (ho3.lt q hq).1)
       have hrs : r < w2.heap.size := by have := HB2.out.size; omega
       have u1 : w4.cell? ⟨r, 1, none⟩ = some (.slice ai n ci) := (B4.cell (p := ⟨r, 1, none⟩) hrs).trans (set0_cell1 _ y1)
       have z4 : w4.frozen? ⟨r, 1, none⟩ = false := by
         have hb := HP.out.put1 HB2.out (.slice a2 (n + 1) c2)
         exact (World.frozen?_of_block (w := w2.setCell ⟨r, 0, none⟩ (.slice a2 (n + 1) c2)) (B4.block r hrs)).trans (hb.frozen 1)
       obtain ⟨a4, c4, rfl, -, -⟩ := owns_int ho4
       have HO4 := Lib.hid ho4
       have HB4 := Lib.hid B4
       clear ho4 hg4 hv4 ho3 hg3 hv3))
  go_wp2
  go_ret
  have hh := HP.out.put2 (L' := L ++ [(ep, it)]) HB2.out (by rw [eps_app]; exact HO2.out) (by rw [List.length_append, HN.out]; rfl) HB4.out (by rw [its_app]; exact HO4.out)
  refine ⟨rfl, fun i => i = r ∨ (Value.slice a2 (n + 1) c2).ownBlock = some i ∨ (Value.slice a4 (n + 1) c4).ownBlock = some i, ⟨_, _, hh.1, fun i => Iff.rfl⟩, ?_, hh.2.more (fun i _ hi => (HSS.out i).2 (.inl hi))⟩
  rintro i (rfl | hi | hi)
  · exact .inl ((HSS.out i).2 (.inl rfl))
  · exact .inr (HO2.out.lt i hi).1
  · refine .inr ?_
    have h1 := (HO4.out.lt i hi).1
    have h2 := HB2.out.size
    omega
end Go.Proofs.Ytinndmglacfofaa
