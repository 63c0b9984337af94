/- Lines as plain functions: written, read as the reference reads them, and as the program does. -/
import Derived.Test.YtniehmlklbggdaaDoorScr
import Derived.Test.YtniehmlklbggdaaDoorCut
import Derived.Test.YtniehmlklbggdaaDoorStr
import Derived.Test.YtniehmlklbggdaaDoorNames
namespace Go.Proofs.YtniehmlklbggdaaDoor
open Go Go.RowKit GwStr
set_option linter.unusedVariables false
set_option linter.unusedSimpArgs false

/-! ### numerals -/
def decI (x : Int) : List UInt8 := Lib.decDigits x.toNat
def refN (l : List UInt8) : Nat := (refP l).getD 0
def refOk (l : List UInt8) : Bool := (refP l).isSome
theorem ref_none {l : List UInt8} (h : refP l = none) : refOk l = false ∧ refN l = 0 := by unfold refOk refN; rw [h]; exact ⟨rfl, rfl⟩
theorem ref_some {l : List UInt8} {n : Nat} (h : refP l = some n) : refOk l = true ∧ refN l = n := by unfold refOk refN; rw [h]; exact ⟨rfl, rfl⟩
theorem dec_bytes (u : Nat) : ∀ c ∈ Lib.decDigits u, 48 ≤ c.toNat ∧ c.toNat ≤ 57 := by
  induction u using Nat.strongRecOn with
  | _ u ih =>
    by_cases h : u < 10
    · rw [Lib.decDigits_one h]
      intro c hc
      have := digit_byte u h
      rw [List.mem_singleton.1 hc]
      omega
    · rw [dec_big h]
      intro c hc
      rcases List.mem_append.1 hc with hc | hc
      · exact ih (u / 10) (by omega) c hc
      · have := digit_byte (u % 10) (by omega)
        rw [List.mem_singleton.1 hc]
        omega
theorem dec_space (u : Nat) : (32 : UInt8) ∉ Lib.decDigits u := fun h => by
  have := dec_bytes u _ h
  have e : (32 : UInt8).toNat = 32 := rfl
  omega
theorem refN_lt (l : List UInt8) : refN l < 18446744073709551616 := by
  rcases h : refP l with _ | n
  · rw [(ref_none h).2]; decide
  · rw [(ref_some h).2]; exact (refP_reads h).2
theorem refN_dec {x : Int} (h0 : 0 ≤ x) (h1 : x ≤ 18446744073709551615) : ((refN (decI x) : Nat) : Int) = x := by
  rw [decI, (ref_some (refP_dec x.toNat (by omega))).2]
  omega

/-! ### lines -/
/-- malformed -/
def malL : List UInt8 := [109, 97, 108, 102, 111, 114, 109, 101, 100]
def nmB (k : Nat) : List UInt8 := (nm k).data.toList
def opdT (o : Oq) (ds : List Od) : List UInt8 := ds.flatMap fun d => 32 :: decI (d.get o)
/-- P20.2. -/
def lineL (o : Oq) : List UInt8 := if validB o = true then nmB (o.kd - 1).toNat ++ opdT o ((ods o.kd).getD []) else malL
def bs (l : List UInt8) : ByteArray := ⟨l.toArray⟩
theorem bs_nm (k : Nat) : bs (nmB k) = nm k := rfl
theorem nm_space : ∀ k, k < 7 → (32 : UInt8) ∉ nmB k := by decide
theorem nm_full : ∀ k, k < 7 → nmB k ≠ [] := by decide
theorem mal_space : (32 : UInt8) ∉ malL := by decide
theorem mal_pos : posN (bs malL) = 0 := by decide
theorem line_yes {o : Oq} {ds : List Od} (h : validB o = true) (hd : ods o.kd = some ds) : lineL o = nmB (o.kd - 1).toNat ++ opdT o ds := by
  unfold lineL
  rw [if_pos h, hd]
  rfl
theorem line_no {o : Oq} (h : validB o = false) : lineL o = malL := by
  unfold lineL
  rw [if_neg (by rw [h]; decide)]
theorem opdT_words (o : Oq) (ds : List Od) : opdT o ds = (ds.map fun d => decI (d.get o)).flatMap (32 :: ·) := by simp [opdT, List.flatMap_map]

/-! ### as the reference reads them -/
def fillW : List Od → List (List UInt8) → Oq → Option Oq
  | [], _, o => some o
  | _ :: _, [], _ => none
  | d :: ds, w :: ws, o => if refOk w = true ∧ ¬ (d ≠ .am ∧ 65535 < refN w) then fillW ds ws (d.set o (refN w)) else none
def parW : List (List UInt8) → Option Oq
  | [] => none
  | n :: ws => match ods ((posN (bs n) : Nat) : Int) with
    | none => none
    | some ds => if ws.length = ds.length then fillW ds ws ⟨((posN (bs n) : Nat) : Int), 0, 0, 0⟩ else none
def parL (l : List UInt8) : Option Oq := parW (spl 32 [] l)
theorem spl_line {k : Nat} (hk : k < 7) (o : Oq) (ds : List Od) : spl 32 [] (nmB k ++ opdT o ds) = nmB k :: ds.map fun d => decI (d.get o) := by
  rw [opdT_words, spl_words _ _ _ (nm_space k hk)]
  · rfl
  · intro v hv
    obtain ⟨d, _, rfl⟩ := List.mem_map.1 hv
    exact dec_space _
theorem ref_dec {x : Int} (h0 : 0 ≤ x) (h1 : x ≤ 18446744073709551615) : refOk (decI x) = true := (ref_some (refP_dec x.toNat (by omega))).1
theorem shape_k {o : Oq} {ds : List Od} (h : Shape o ds) : ∃ k : Nat, k < 7 ∧ o.kd = (k : Int) + 1 := by
  have := ods_some (valid_of h).1
  exact ⟨(o.kd - 1).toNat, by omega, by omega⟩
theorem par_line {o : Oq} {ds : List Od} (h : Shape o ds) : parL (lineL o) = some o := by
  obtain ⟨hd, hv⟩ := valid_of h
  obtain ⟨k, hk, hkd⟩ := shape_k h
  rw [line_yes hv hd, show (o.kd - 1).toNat = k by omega, parL, spl_line hk, parW]
  have e1 : ((posN (bs (nmB k)) : Nat) : Int) = o.kd := by rw [bs_nm, posN_nm k hk]; omega
  rw [e1, hd]
  simp only [List.length_map, if_pos]
  clear hd hv hk hkd e1
  cases h with
  | am k a h h0 => simp [fillW, Od.get, Od.set, ref_dec h0.1 h0.2, refN_dec h0.1 h0.2]
  | ix k i h h0 => simp [fillW, Od.get, Od.set, wU h0.1 h0.2, wI h0.1 h0.2, ref_dec h0.1 (show i ≤ 18446744073709551615 by omega), refN_dec h0.1 (show i ≤ 18446744073709551615 by omega)]; have := refN_dec h0.1 (show i ≤ 18446744073709551615 by omega); omega
  | it k i t h h0 h1 =>
    have a1 := refN_dec h0.1 (show i ≤ 18446744073709551615 by omega)
    have a2 := refN_dec h1.1 (show t ≤ 18446744073709551615 by omega)
    simp [fillW, Od.get, Od.set, wU h0.1 h0.2, wI h0.1 h0.2, wU h1.1 h1.2, wI h1.1 h1.2, ref_dec h0.1 (show i ≤ 18446744073709551615 by omega), ref_dec h1.1 (show t ≤ 18446744073709551615 by omega), a1, a2]
    omega
  | ia k i a h h0 h1 =>
    have a1 := refN_dec h0.1 (show i ≤ 18446744073709551615 by omega)
    simp [fillW, Od.get, Od.set, wU h0.1 h0.2, wI h0.1 h0.2, ref_dec h0.1 (show i ≤ 18446744073709551615 by omega), ref_dec h1.1 h1.2, a1, refN_dec h1.1 h1.2]
    omega
  | no k h => simp [fillW]
theorem ref_back {w : List UInt8} (h : refOk w = true) : decI ((refN w : Nat) : Int) = w ∧ refN w < 18446744073709551616 := by
  rcases hr : refP w with _ | n
  · rw [(ref_none hr).1] at h; cases h
  · rw [(ref_some hr).2]
    have := refP_reads hr
    exact ⟨by rw [decI, Int.toNat_natCast]; exact this.1, this.2⟩
theorem fillW_one {d : Od} {w : List UInt8} {o p : Oq} (h : fillW [d] [w] o = some p) : refOk w = true ∧ (d = .am ∨ refN w ≤ 65535) ∧ p = d.set o (refN w) := by
  simp only [fillW] at h
  split at h
  · rename_i hc
    injection h with h
    refine ⟨hc.1, ?_, h.symm⟩
    by_cases hd : d = .am
    · exact .inl hd
    · exact .inr (by have := hc.2; simp [hd] at this; omega)
  · cases h
theorem fillW_two {d e : Od} {w v : List UInt8} {o p : Oq} (h : fillW [d, e] [w, v] o = some p) : refOk w = true ∧ (d = .am ∨ refN w ≤ 65535) ∧ fillW [e] [v] (d.set o (refN w)) = some p := by
  simp only [fillW] at h ⊢
  split at h
  · rename_i hc
    refine ⟨hc.1, ?_, h⟩
    by_cases hd : d = .am
    · exact .inl hd
    · exact .inr (by have := hc.2; simp [hd] at this; omega)
  · cases h
theorem len_one {α : Type} : ∀ {l : List α}, l.length = 1 → ∃ a, l = [a]
  | [a], _ => ⟨a, rfl⟩
theorem len_two {α : Type} : ∀ {l : List α}, l.length = 2 → ∃ a b, l = [a, b]
  | [a, b], _ => ⟨a, b, rfl⟩
theorem par_back {l : List UInt8} {o : Oq} (h : parL l = some o) : (∃ ds, Shape o ds) ∧ lineL o = l := by
  obtain ⟨n, ws, hs⟩ := spl_ne (c := 32) l []
  have hj := spl_join l [] n ws hs
  rw [List.nil_append] at hj
  rw [parL, hs] at h
  simp only [parW] at h
  obtain ⟨k, hk⟩ : ∃ k, posN (bs n) = k := ⟨_, rfl⟩
  rw [hk] at h
  cases ho : ods (k : Int) with
  | none => rw [ho] at h; cases h
  | some ds =>
    rw [ho] at h
    simp only at h
    split at h
    · rename_i hl
      have hk7 := ods_some ho
      obtain ⟨j, rfl⟩ : ∃ j, k = j + 1 := ⟨k - 1, by omega⟩
      have hn : nmB j = n := by
        have := ((posN_iff (bs n)).2 j (by omega)).2 hk
        unfold nmB
        rw [this]
        simp [bs]
      have fin : ∀ {p : Oq} {es : List Od}, Shape p es → p.kd = ((j + 1 : Nat) : Int) → ws = es.map (fun d => decI (d.get p)) → lineL p = l := fun {p es} hS hp hw => by
        obtain ⟨h1, h2⟩ := valid_of hS
        rw [line_yes h2 h1, hj, opdT_words, ← hw, ← hn, show (p.kd - 1).toNat = j by omega]
      have idx : ∀ {w : List UInt8}, refN w ≤ 65535 → 0 ≤ ((refN w : Nat) : Int) ∧ ((refN w : Nat) : Int) ≤ 65535 := fun h => by omega
      rcases ods_cases ((j + 1 : Nat) : Int) with ⟨e0, e⟩ | ⟨e0, e⟩ | ⟨e0, e⟩ | ⟨e0, e⟩ | ⟨e0, e⟩ | ⟨e0, e⟩ | ⟨e0, e⟩ | ⟨_, e⟩
      all_goals rw [ho] at e
      all_goals first | cases e; done | (injection e with e; subst e)
      · obtain ⟨w, rfl⟩ := len_one hl
        · obtain ⟨h1, _, rfl⟩ := fillW_one h
          obtain ⟨b1, b2⟩ := ref_back h1
          have S : Shape (Od.am.set ⟨((j + 1 : Nat) : Int), 0, 0, 0⟩ (refN w)) [.am] := .am _ _ e0 ⟨by omega, by omega⟩
          exact ⟨⟨_, S⟩, fin S rfl (by simp [Od.set, Od.get, b1])⟩
      iterate 3
        · obtain ⟨w, rfl⟩ := len_one hl
          · obtain ⟨h1, h2, rfl⟩ := fillW_one h
            obtain ⟨b1, b2⟩ := ref_back h1
            have hi := idx (h2.resolve_left (by decide))
            have S : Shape (Od.ix.set ⟨((j + 1 : Nat) : Int), 0, 0, 0⟩ (refN w)) [.ix] := by
              simp only [Od.set, wI hi.1 hi.2]
              exact .ix _ _ (by omega) hi
            exact ⟨⟨_, S⟩, fin S rfl (by simp [Od.set, Od.get, wI hi.1 hi.2, wU hi.1 hi.2, b1])⟩
      · obtain ⟨w, v, rfl⟩ := len_two hl
        · obtain ⟨h1, h2, h⟩ := fillW_two h
          obtain ⟨h3, h4, rfl⟩ := fillW_one h
          obtain ⟨b1, b2⟩ := ref_back h1
          obtain ⟨b3, b4⟩ := ref_back h3
          have hi := idx (h2.resolve_left (by decide))
          have ht := idx (h4.resolve_left (by decide))
          have S : Shape (Od.tg.set (Od.ix.set ⟨((j + 1 : Nat) : Int), 0, 0, 0⟩ (refN w)) (refN v)) [.ix, .tg] := by
            simp only [Od.set, wI hi.1 hi.2, wI ht.1 ht.2]
            exact .it _ _ _ e0 hi ht
          exact ⟨⟨_, S⟩, fin S rfl (by simp [Od.set, Od.get, wI hi.1 hi.2, wU hi.1 hi.2, wI ht.1 ht.2, wU ht.1 ht.2, b1, b3])⟩
      · obtain ⟨w, v, rfl⟩ := len_two hl
        · obtain ⟨h1, h2, h⟩ := fillW_two h
          obtain ⟨h3, h4, rfl⟩ := fillW_one h
          obtain ⟨b1, b2⟩ := ref_back h1
          obtain ⟨b3, b4⟩ := ref_back h3
          have hi := idx (h2.resolve_left (by decide))
          have S : Shape (Od.am.set (Od.ix.set ⟨((j + 1 : Nat) : Int), 0, 0, 0⟩ (refN w)) (refN v)) [.ix, .am] := by
            simp only [Od.set, wI hi.1 hi.2]
            exact .ia _ _ _ e0 hi ⟨by omega, by omega⟩
          exact ⟨⟨_, S⟩, fin S rfl (by simp [Od.set, Od.get, wI hi.1 hi.2, wU hi.1 hi.2, b1, b3])⟩
      · obtain rfl := List.eq_nil_of_length_eq_zero hl
        · simp only [fillW, Option.some.injEq] at h
          subst h
          have S : Shape (⟨((j + 1 : Nat) : Int), 0, 0, 0⟩ : Oq) [] := .no _ e0
          exact ⟨⟨_, S⟩, fin S rfl rfl⟩
    · cases h

/-! ### as the program reads them -/
def candF : List Od → List UInt8 → Oq → Oq
  | [], _, o => o
  | d :: ds, r, o => candF ds (cutP 32 r).2 (d.set o (refN (cutP 32 r).1))
theorem candF_kd : ∀ (ds : List Od) (r : List UInt8) (o : Oq), (candF ds r o).kd = o.kd
  | [], _, _ => rfl
  | d :: ds, r, o => by rw [candF, candF_kd ds]; cases d <;> rfl
theorem candF_fits : ∀ (ds : List Od) (r : List UInt8) (o : Oq), FitsOq o → FitsOq (candF ds r o)
  | [], _, _, h => h
  | d :: ds, r, o, h => by
    rw [candF]
    refine candF_fits ds _ _ ?_
    obtain ⟨h1, h2, h3, h4⟩ := h
    have hw : ∀ v : Int, (Lit.int .i64 (IntKind.i64.wrap v)).wf = true := fun v => WalkArith.wf_i64 (by simp [IntKind.wrap, IntKind.bits, IntKind.signed]; omega)
    have hn := refN_lt (cutP 32 r).1
    cases d with
    | ix => exact ⟨h1, hw _, h3, h4⟩
    | tg => exact ⟨h1, h2, hw _, h4⟩
    | am =>
      refine ⟨h1, h2, h3, ?_⟩
      show (Lit.int .u64 ((refN (cutP 32 r).1 : Nat) : Int)).wf = true
      simp [Lit.wf, IntKind.min, IntKind.max, IntKind.signed, IntKind.bits]
      omega
theorem cut_dec (x : Int) : cutP 32 (decI x) = (decI x, []) := cutP_end (dec_space _)
theorem cand_line {o : Oq} {ds : List Od} (h : Shape o ds) : ∃ k : Nat, k < 7 ∧ o.kd = (k : Int) + 1 ∧ (cutP 32 (lineL o)).1 = nmB k ∧ candF ds (cutP 32 (lineL o)).2 ⟨o.kd, 0, 0, 0⟩ = o := by
  obtain ⟨hd, hv⟩ := valid_of h
  obtain ⟨k, hk, hkd⟩ := shape_k h
  refine ⟨k, hk, hkd, ?_⟩
  rw [line_yes hv hd, show (o.kd - 1).toNat = k by omega]
  have c1 : ∀ y, cutP 32 (nmB k ++ 32 :: y) = (nmB k, y) := cutP_cut (nm_space k hk)
  have c0 : cutP 32 (nmB k) = (nmB k, []) := cutP_end (nm_space k hk)
  have c2 : ∀ x y, cutP 32 (decI x ++ 32 :: y) = (decI x, y) := fun x => cutP_cut (dec_space _)
  clear hd hv hkd
  cases h with
  | am k' a h h0 => simp [opdT, c1, candF, cut_dec, Od.get, Od.set, refN_dec h0.1 h0.2]
  | ix k' i h h0 => simp [opdT, c1, candF, cut_dec, Od.get, Od.set, wU h0.1 h0.2, wI h0.1 h0.2, refN_dec h0.1 (show i ≤ 18446744073709551615 by omega)]
  | it k' i t h h0 h1 => simp [opdT, c1, c2, candF, cut_dec, Od.get, Od.set, wU h0.1 h0.2, wI h0.1 h0.2, wU h1.1 h1.2, wI h1.1 h1.2, refN_dec h0.1 (show i ≤ 18446744073709551615 by omega), refN_dec h1.1 (show t ≤ 18446744073709551615 by omega)]
  | ia k' i a h h0 h1 => simp [opdT, c1, c2, candF, cut_dec, Od.get, Od.set, wU h0.1 h0.2, wI h0.1 h0.2, refN_dec h0.1 (show i ≤ 18446744073709551615 by omega), refN_dec h1.1 h1.2]
  | no k' h => simp [opdT, c0, candF]
theorem shape_inj {o : Oq} {ds es : List Od} (h : Shape o ds) (he : ods o.kd = some es) : ds = es := by
  have := (valid_of h).1
  rw [he] at this
  injection this with this
  exact this.symm
theorem cand_none {l : List UInt8} (h : posN (bs (cutP 32 l).1) = 0) : parL l = none := by
  cases hp : parL l with
  | none => rfl
  | some o =>
    obtain ⟨⟨ds, hs⟩, rfl⟩ := par_back hp
    obtain ⟨k, hk, _, h1, _⟩ := cand_line hs
    rw [h1, bs_nm, posN_nm k hk] at h
    cases h
theorem cand_yes {l : List UInt8} {ds : List Od} {c : Oq} (h : ods ((posN (bs (cutP 32 l).1) : Nat) : Int) = some ds) (hc : c = candF ds (cutP 32 l).2 ⟨((posN (bs (cutP 32 l).1) : Nat) : Int), 0, 0, 0⟩) (he : lineL c = l) : parL l = some c := by
  have hk : c.kd = ((posN (bs (cutP 32 l).1) : Nat) : Int) := by rw [hc, candF_kd]
  have hp := ods_some h
  have hf : FitsOq c := by
    rw [hc]
    exact candF_fits _ _ _ ⟨WalkArith.wf_i64 (by simp only; omega), show (Lit.int .i64 0).wf = true by decide, show (Lit.int .i64 0).wf = true by decide, show (Lit.int .u64 0).wf = true by decide⟩
  cases hv : validB c with
  | false =>
    rw [line_no hv] at he
    rw [← he, cutP_end mal_space, mal_pos] at hp
    omega
  | true =>
    obtain ⟨es, _, hs⟩ := shape_of hv hf
    rw [← he]
    exact par_line hs
theorem cand_no {l : List UInt8} {ds : List Od} {c : Oq} (h : ods ((posN (bs (cutP 32 l).1) : Nat) : Int) = some ds) (hc : c = candF ds (cutP 32 l).2 ⟨((posN (bs (cutP 32 l).1) : Nat) : Int), 0, 0, 0⟩) (he : lineL c ≠ l) : parL l = none := by
  cases hp : parL l with
  | none => rfl
  | some o =>
    obtain ⟨⟨es, hs⟩, rfl⟩ := par_back hp
    obtain ⟨k, hk, h0, h1, h2⟩ := cand_line hs
    have e : ((posN (bs (cutP 32 (lineL o)).1) : Nat) : Int) = o.kd := by rw [h1, bs_nm, posN_nm k hk, h0]; omega
    rw [e] at h hc
    rw [shape_inj hs h] at h2
    rw [h2] at hc
    exact absurd (by rw [hc]) he

/-! ### texts -/
def parD (l : List UInt8) : Oq := (parL l).getD oqZ
/-- P20.4. -/
def readL (t : List UInt8) : List Oq := ((spl 10 [] t).filter fun l => !l.isEmpty).map parD
theorem readL_two (a b : List UInt8) : readL (a ++ 10 :: b) = readL a ++ readL b := by simp [readL, spl_two]
theorem readL_len (a : List UInt8) : (readL a).length ≤ a.count 10 + 1 := by
  rw [← spl_len (c := 10) a []]
  simp only [readL, List.length_map]
  exact List.length_filter_le _ _
end Go.Proofs.YtniehmlklbggdaaDoor
