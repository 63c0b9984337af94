/- process: exits are assigned as long as their weights are taken. -/
import Derived.Test.YtkeclanbebiogaaDone
import Derived.Test.YtkeclanbebiogaaAmts
import Derived.Test.YtkeclanbebiogaaActs
import Derived.Test.YtkeclanbebiogaaLists
import Derived.Test.YtkeclanbebiogaaMetRef
import Derived.WalkMore
import Derived.Deep.LoopGhost
namespace Go.Proofs.Ytkeclanbebiogaa
open Go Go.RowKit
set_option linter.unusedVariables false
set_option linter.unusedSimpArgs false
set_option maxRecDepth 100000

/-- Assignments as a row of cells. -/
def rowA (ep : Int) (l : List (Int × Int)) : List Value := l.flatMap fun p => [.int .i64 p.1, .int .i64 p.2, .int .i64 ep]
theorem rowA_snoc (ep : Int) (l : List (Int × Int)) (p : Int × Int) : rowA ep (l ++ [p]) = rowA ep l ++ [.int .i64 p.1, .int .i64 p.2, .int .i64 ep] := by simp [rowA]
theorem asg_app : ∃ i, Try.prog.info? 51 = some i ∧ i.zero = some (.agg #[.int .i64 0, .int .i64 0, .int .i64 0]) ∧ i.size = 3 ∧ i.bytes = 24 := by
  have h : (Try.prog.info? 51).map (fun i => (i.zero, i.size, i.bytes)) = some (some (.agg #[.int .i64 0, .int .i64 0, .int .i64 0]), 3, 24) := by kernel_rfl
  cases hi : Try.prog.info? 51 with
  | none => rw [hi] at h; cases h
  | some i =>
    rw [hi] at h
    simp at h
    exact ⟨i, rfl, h.1, h.2.1, h.2.2⟩
theorem owns_slice {w : World} {base n size : Nat} {e : TypeId} {v : Value} {xs : List Value} (h : w.ownsRow base e size v n xs) : ∃ a cp, v = .slice a n cp := by
  rcases h.2 with ⟨rfl, rfl⟩ | ⟨g, cp, cur, rfl, _⟩
  · exact ⟨none, 0, rfl⟩
  · exact ⟨_, cp, rfl⟩
/-- Lanes, a meter and a row of assignments where a boundary stands, seen from w. -/
def PInv (w : World) (b m nn : Nat) (S : Nat → Prop) (Sp B0 D ep : Int) (wr : World) (v : Value) (out : List (Int × Int)) (F V : List Int) (B : Int) : Prop :=
  ∃ S1 T1, Ln wr b S1 nn F V ∧ (∀ i, S1 i → S i ∨ w.heap.size ≤ i) ∧ ¬ S1 m ∧ MetAt wr m B (Sp + (B0 - B)) T1 D ∧ Fits B (Sp + (B0 - B)) T1 D ∧
    wr.ownsRow w.heap.size 51 3 v out.length (rowA ep out) ∧ (∀ g, v.ownBlock = some g → ¬ S1 g) ∧ Kept (fun i => i = m ∨ S i) w wr ∧ m < w.heap.size
section
variable {w wr w' : World} {b m nn : Nat} {S : Nat → Prop} {Sp B0 D ep B x : Int} {v : Value} {out : List (Int × Int)} {F V : List Int}
theorem PInv.drewN (h : PInv w b m nn S Sp B0 D ep wr v out F V B) (q : Nat) : PInv w b m nn S Sp B0 D ep (wr.drewN q) v out F V B := by
  obtain ⟨S1, T1, h1, h2, h3, h4, h5, h6, h7, h8, h9⟩ := h
  exact ⟨S1, T1, h1, h2, h3, h4, h5, h6, h7, h8.drewN q, h9⟩
theorem PInv.head (h : PInv w b m nn S Sp B0 D ep wr v out F V B) : Calls Try.prog 21 #[.pointer (some ⟨b, 0, none⟩)] wr fun e w' => e = .returned (.tuple #[.int .i64 (hdI F V), .int .i64 (hdC F V), .bool (hdB F V)]) ∧ ∃ q, w' = wr.drewN q := by
  obtain ⟨S1, T1, h1, _⟩ := h
  exact head_any h1
theorem PInv.refuse (h : PInv w b m nn S Sp B0 D ep wr v out F V B) (hx : ¬ x ≤ B) : Calls Try.prog 33 #[.pointer (some ⟨m, 0, none⟩), .int .u64 x] wr fun e w' => e = .returned (.bool false) ∧ ∃ q, w' = wr.drewN q := by
  obtain ⟨S1, T1, h1, h2, h3, h4, h5, _⟩ := h
  exact take_no m _ _ _ _ x wr h4 h5 (by omega)
theorem PInv.take (h : PInv w b m nn S Sp B0 D ep wr v out F V B) (x0 : 0 ≤ x) (hx : x ≤ B) : Calls Try.prog 33 #[.pointer (some ⟨m, 0, none⟩), .int .u64 x] wr fun e w' => e = .returned (.bool true) ∧ Hid (PInv w b m nn S Sp B0 D ep w' v out F V (B - x)) := by
  obtain ⟨S1, T1, h1, h2, h3, h4, h5, h6, h7, h8, h9⟩ := h
  obtain ⟨T', hT, hN, hG, hb⟩ := take_eq h5 x0 hx
  refine (take_yes m _ _ _ _ T' x wr h4 h5 hx hT hG hb).mono ?_
  rintro e w' ⟨he, hm, hg⟩
  have k : Kept (fun i => i = m) wr w' := Kept.of_grown hg (fun i e => by injection e)
  have es : Sp + (B0 - B) + x = Sp + (B0 - (B - x)) := by omega
  rw [es] at hm hN
  exact ⟨he, Lib.hid ⟨S1, T', h1.kept k (fun i hi e => h3 (by rw [← show i = m from e]; exact hi)), h2, h3, hm, hN, owns_kept h6 k (fun g hg e => by have := (h6.lt g hg).1; have : g = m := e; omega), h7, h8.trans k (fun i _ e => .inl e), h9⟩⟩
theorem PInv.pop (h : PInv w b m nn S Sp B0 D ep wr v out F V B) : Calls Try.prog 54 #[.pointer (some ⟨b, 0, none⟩)] wr fun e w' => e = .returned (.tuple #[.int .i64 (hdI F V), .int .i64 (hdC F V), .bool (hdB F V)]) ∧ Hid (PInv w b m nn S Sp B0 D ep w' v out (popF F) (popV F V) B) := by
  obtain ⟨S1, T1, h1, h2, h3, h4, h5, h6, h7, h8, h9⟩ := h
  refine (pop_any h1).mono ?_
  rintro e w' ⟨he, S2, hl, hg⟩
  have new : ∀ i, i < wr.heap.size → ¬ S1 i → ¬ S2 i := fun i hi hn hs => (hg.2 i hs).elim hn (fun h => by omega)
  refine ⟨he, Lib.hid ⟨S2, T1, hl, fun i hi => ?_, new m (Nat.lt_of_lt_of_le h9 h8.size) h3, Blk.kept (w := wr) h4 hg.1 h3, h5, owns_kept h6 hg.1 h7, fun g hg' => new g (h6.lt g hg').2 (h7 g hg'), h8.trans hg.1 (fun i hi h => (h2 i h).elim .inr (fun h => by omega)), h9⟩⟩
  rcases hg.2 i hi with h | h
  · exact h2 i h
  · exact .inr (Nat.le_trans h8.size h)
theorem PInv.alloc (h : PInv w b m nn S Sp B0 D ep wr v out F V B) (o : Obj) : PInv w b m nn S Sp B0 D ep (wr.alloc o) v out F V B := by
  obtain ⟨S1, T1, h1, h2, h3, h4, h5, h6, h7, h8, h9⟩ := h
  have k : Kept (fun _ => False) wr (wr.alloc o) := (Kept.refl _ _).alloc o
  exact ⟨S1, T1, h1.kept k (fun _ _ h => h), h2, h3, Blk.alloc h4 o, h5, h6.alloc _, h7, h8.alloc o, h9⟩
/-- One assignment more. -/
theorem PInv.app {v' : Value} {p : Int × Int} (h : PInv w b m nn S Sp B0 D ep wr v out F V B) (ho : w'.ownsRow w.heap.size 51 3 v' (out.length + 1) (rowA ep out ++ [.int .i64 p.1, .int .i64 p.2, .int .i64 ep])) (hg : wr.grownBy w' v.ownBlock)
    (ha : v'.ownBlock = v.ownBlock ∨ v'.ownBlock = some wr.heap.size) : PInv w b m nn S Sp B0 D ep w' v' (out ++ [p]) F V B := by
  obtain ⟨S1, T1, h1, h2, h3, h4, h5, h6, h7, h8, h9⟩ := h
  have k : Kept (fun i => some i = v.ownBlock) wr w' := Kept.of_grown hg (fun i e => e)
  refine ⟨S1, T1, h1.kept k (fun i hi e => h7 i (Eq.symm e) hi), h2, h3, Blk.kept (w := wr) h4 k (fun e => by have := (h6.lt m (Eq.symm e)).1; omega), h5, by rw [rowA_snoc]; simpa using ho, fun g hg' => ?_, h8.trans k (fun i hi e => by have := (h6.lt i (Eq.symm e)).1; omega), h9⟩
  rcases ha with ha | ha
  · exact h7 g (ha ▸ hg')
  · rw [ha] at hg'
    injection hg' with hg'
    exact fun hs => by have := h1.lt g hs; omega
end
/-- Three cells at the head of a block. -/
def Src3 (w : World) (g : Nat) (l : List Value) : Prop := (0 < 1 → ∃ ad, some (⟨g, 0, none⟩ : Addr) = some ad ∧ ∀ j u, l[j]? = some u → w.cell? (ad.add j) = some u) ∧ ∀ u ∈ l, u.oneCell' = true
theorem src3_new (w : World) (t : TypeId) (x y z : Int) : Src3 (w.alloc (.cells #[.int .i64 x, .int .i64 y, .int .i64 z] t)) w.heap.size [.int .i64 x, .int .i64 y, .int .i64 z] := by
  refine ⟨fun _ => ⟨_, rfl, fun j u hj => ?_⟩, fun u hu => ?_⟩
  · rw [add_plain, Nat.zero_add, (Blk.new w t #[.int .i64 x, .int .i64 y, .int .i64 z]).cell]
    simpa using hj
  · simp at hu
    rcases hu with rfl | rfl | rfl <;> rfl
/-- What process hands back and leaves. -/
def ProcPost (w : World) (b m nn : Nat) (S : Nat → Prop) (Sp B0 D ep : Int) (om : Int → Int) (F V : List Int) (e : Ending) (w' : World) : Prop :=
  ∃ a c, e = .returned (.slice a (asg om F V B0).1.length c) ∧ Hid (PInv w b m nn S Sp B0 D ep w' (.slice a (asg om F V B0).1.length c) (asg om F V B0).1 (asg om F V B0).2.1 (asg om F V B0).2.2.1 (asg om F V B0).2.2.2)
section
variable {w : World} {b m nn : Nat} {S : Nat → Prop} {B Sp T D ep : Int} {F V L : List Int} {wa : Option Addr} {cap : Nat}
set_option maxHeartbeats 1600000 in
theorem process_any (hl : Ln w b S nn F V) (hm : MetAt w m B Sp T D) (hF : Fits B Sp T D) (hn : ¬ S m) (hu : UAt w (fun i => i = m ∨ S i) wa L) (hL : L.length ≤ 9223372036854775807) (hA : Amts L) :
    Calls Try.prog 32 #[.int .i64 ep, .pointer (some ⟨b, 0, none⟩), .slice wa L.length cap, .func (.func 33) #[.pointer (some ⟨m, 0, none⟩)] #[]] w (ProcPost w b m nn S Sp B D ep (wOf L) F V) := by
  obtain ⟨j0, hj0, hz0, hz1, hz2⟩ := asg_app
  have hsz := hl.size
  have HU := Lib.hid hu
  have HA := Lib.hid hA
  have HL := Lib.hid hL
  have hmlt := Blk.lt hm
  have H0 : Hid (PInv w b m nn S Sp B D ep w (.slice none 0 0) [] F V B) := Lib.hid ⟨S, T, hl, fun i hi => .inl hi, hn, by rw [show Sp + (B - B) = Sp by omega]; exact hm, by rw [show Sp + (B - B) = Sp by omega]; exact hF, World.ownsRow_nil _ _ _ _, (fun g hg => by cases hg), Kept.refl _ _, hmlt⟩
  have HN : Hid (F.length + V.length ≤ 2097152) := Lib.hid (by omega)
  clear hl hm hF hn hu hA hsz hmlt hL
  go_enter Try.func32, Try.ntmps32
  go_wp2
  go_loopg [9] (F.length + V.length) (fun g s9 wr => ∃ (F1 V1 : List Int) (B1 : Int) (out : List (Int × Int)) (k : Nat) (a : Option Addr) (c : Nat), F1.length + V1.length = g ∧ s9 = .slice a k c ∧ Hid (k = out.length ∧ k + g ≤ 2097152) ∧
    Hid (PInv w b m nn S Sp B D ep wr (.slice a k c) out F1 V1 B1) ∧ Hid (asg (wOf L) F V B = (out ++ (asg (wOf L) F1 V1 B1).1, (asg (wOf L) F1 V1 B1).2)))
  case atStart => exact ⟨F, V, B, [], 0, none, 0, rfl, rfl, Lib.hid ⟨rfl, by have := HN.out; omega⟩, H0, Lib.hid rfl⟩
  case round =>
    clear H0 HN
    obtain ⟨F1, V1, B1, out, k, a, c, hg, rfl, HK, HP, HE⟩ := hrel
    have HG := Lib.hid hg
    clear hg
    go_wp2_with fail
    refine HP.out.head.mono ?_
    rintro e w1 ⟨rfl, q, rfl⟩
    have HP1 := Lib.hid (HP.out.drewN q)
    have HU1 : Hid (UAt (wr.drewN q) (fun i => i = m ∨ S i) wa L) := Lib.hid (by
      obtain ⟨_, _, _, _, _, _, _, _, _, k8, _⟩ := HP1.out
      exact HU.out.kept k8 (fun _ _ h => h))
    clear HP
    generalize wr.drewN q = w1 at *
    cases hb : hdB F1 V1
    · have HR : Hid (ProcPost w b m nn S Sp B D ep (wOf L) F V (.returned (.slice a k c)) w1) := Lib.hid (by
        have e1 := HE.out
        rw [(asg_none hb).1, List.append_nil] at e1
        refine ⟨a, c, by rw [e1]; simp only [HK.out.1], ?_⟩
        rw [e1]
        have := HP1.out
        rw [HK.out.1] at this
        exact Lib.hid this)
      clear HP1 HU1 HE HK
      have HB := Lib.hid hb
      clear hb
      go_wp2
      try rw [Exit.noGoto_ret]
      go_ret
      exact HR.out
    · have HB := Lib.hid hb
      clear hb
      obtain ⟨x, hx⟩ : ∃ x, wOf L (hdI F1 V1) = x := ⟨_, rfl⟩
      have hi := fun w h => weight_any (S := fun i => i = m ∨ S i) (a := wa) cap (hdI F1 V1) w h HL.out
      rw [hx] at hi
      have HI := Lib.hid hi
      have HX := Lib.hid hx
      have hx0 := wOf_amt HA.out (hdI F1 V1)
      rw [hx] at hx0
      have HX0 := Lib.hid hx0
      clear hi hx hx0
      by_cases hle : x ≤ B1
      · have HT := Lib.hid (HP1.out.take HX0.out.1 hle)
        have HE2 : Hid (asg (wOf L) F V B = ((out ++ [(hdI F1 V1, hdC F1 V1)]) ++ (asg (wOf L) (popF F1) (popV F1 V1) (B1 - x)).1, (asg (wOf L) (popF F1) (popV F1 V1) (B1 - x)).2)) := Lib.hid (by
          have e1 := HE.out
          rw [asg_next HB.out (by rw [HX.out]; exact hle), HX.out] at e1
          rw [e1]; simp)
        have HG2 : Hid ((popF F1).length + (popV F1 V1).length + 1 = gk) := Lib.hid (by have := pop_len HB.out; have := HG.out; omega)
        clear hle HE HX HX0 HP1
        go_wp2_with fail
        refine (HI.out _ HU1.out).mono ?_
        rintro e w' ⟨rfl, rfl⟩
        go_wp2_with fail
        refine HT.out.mono ?_
        rintro e w2 ⟨rfl, HP2⟩
        clear HT HI HU1
        go_wp2_with fail
        refine HP2.out.pop.mono ?_
        rintro e w3 ⟨rfl, HP3⟩
        clear HP2
        generalize popF F1 = F2 at *
        generalize popV F1 V1 = V2 at *
        generalize hdI F1 V1 = ix at *
        generalize hdC F1 V1 = ic at *
        generalize hdB F1 V1 = ib at *
        have HP4 : Hid (PInv w b m nn S Sp B D ep (w3.alloc (.cells #[.int .i64 ix, .int .i64 ic, .int .i64 ep] 51)) (.slice a k c) out F2 V2 (B1 - x)) := Lib.hid (HP3.out.alloc _)
        have HO4 : Hid ((w3.alloc (.cells #[.int .i64 ix, .int .i64 ic, .int .i64 ep] 51)).ownsRow w.heap.size 51 3 (.slice a k c) k (rowA ep out) ∧ w.heap.size ≤ w3.heap.size) := Lib.hid (by
          obtain ⟨_, _, _, _, _, _, _, k6, _, k8, _⟩ := HP4.out
          obtain ⟨_, _, _, _, _, _, _, _, _, k8', _⟩ := HP3.out
          exact ⟨by rw [← HK.out.1] at k6; exact k6, k8'.size⟩)
        have hkb : k ≤ 2097152 := by have := HK.out.2; omega
        clear HP3
        have HN1 : Hid (Src3 (w3.alloc (.cells #[.int .i64 ix, .int .i64 ic, .int .i64 ep] 51)) w3.heap.size [.int .i64 ix, .int .i64 ic, .int .i64 ep]) := Lib.hid (src3_new w3 _ ix ic ep)
        go_wp2_with (at_builtin; refine wpList_append_src _ rfl (.tmp 32) (.tmp 37) 41 rfl w.heap.size 51 j0 _ 3 24 Try.underlying41 hj0 hz0 hz1 hz2 rfl (by decide) (.slice a k c) k (rowA ep out) rfl HO4.out.1 (some ⟨w3.heap.size, 0, none⟩) 1 1 [.int .i64 ix, .int .i64 ic, .int .i64 ep] rfl rfl HN1.out.1 HN1.out.2 (by unfold maxLen; omega) (by omega) (by have := HO4.out.2; simp; omega) ?_)
        intro v' w5 ho5 hg5 ha5
        have HP5 : Hid (PInv w b m nn S Sp B D ep w5 v' (out ++ [(ix, ic)]) F2 V2 (B1 - x)) := Lib.hid (HP4.out.app (p := (ix, ic)) (by rw [← HK.out.1]; exact ho5) hg5 (by simpa using ha5))
        obtain ⟨a5, c5, rfl⟩ := owns_slice ho5
        have HK5 : Hid (k + 1 = (out ++ [(ix, ic)]).length ∧ k + 1 + (gk - 1) ≤ 2097152) := Lib.hid ⟨by rw [List.length_append, HK.out.1]; rfl, by have := HK.out.2; have := HG2.out; omega⟩
        have HGG : Hid (F2.length + V2.length = gk - 1 ∧ 0 < gk) := Lib.hid (by have := HG2.out; omega)
        clear ho5 hg5 ha5 HP4 HO4 HK HG HG2 hkb HN1
        go_wp2
        go_roundg (gk - 1)
        case measure => have := HGG.out.2; omega
        case rel => exact ⟨F2, V2, B1 - x, out ++ [(ix, ic)], k + 1, a5, c5, HGG.out.1, rfl, HK5, HP5, HE2⟩
      · have HT := Lib.hid (HP1.out.refuse hle)
        have HR : Hid (∀ q, ProcPost w b m nn S Sp B D ep (wOf L) F V (.returned (.slice a k c)) (w1.drewN q)) := Lib.hid (fun q => by
          have e1 := HE.out
          rw [asg_wait HB.out (by rw [HX.out]; exact hle), List.append_nil] at e1
          refine ⟨a, c, by rw [e1]; simp only [HK.out.1], ?_⟩
          rw [e1]
          have := HP1.out.drewN q
          rw [HK.out.1] at this
          exact Lib.hid this)
        clear HP1 HE HK HX
        go_wp2_with fail
        refine (HI.out _ HU1.out).mono ?_
        rintro e w' ⟨rfl, rfl⟩
        go_wp2_with fail
        refine HT.out.mono ?_
        rintro e w2 ⟨rfl, q2, rfl⟩
        clear HT HI HU1
        go_wp2
        try rw [Exit.noGoto_ret]
        go_ret
        exact HR.out _
end
end Go.Proofs.Ytkeclanbebiogaa
