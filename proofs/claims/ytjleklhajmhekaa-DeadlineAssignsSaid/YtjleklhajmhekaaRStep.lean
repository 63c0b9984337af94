/- The reference's Step. (After stage 13.) -/
import Derived.Test.YtjleklhajmhekaaDone
import Derived.Test.YtjleklhajmhekaaAmts
import Derived.Test.YtjleklhajmhekaaMetRef
import Derived.Test.YtjleklhajmhekaaRefP
import Derived.WalkMore
import Derived.Deep.LoopGhost
namespace Go.Proofs.Ytjleklhajmhekaa
open Go Go.RowKit
set_option linter.unusedVariables false
set_option linter.unusedSimpArgs false
set_option maxRecDepth 100000
/-- Assignments as a row of cells. -/
def rowA (ep : Int) (l : List (Int × Int)) : List Value := l.flatMap fun p => [.int .i64 p.1, .int .i64 p.2, .int .i64 ep]
theorem rowA_snoc (ep : Int) (l : List (Int × Int)) (p : Int × Int) : rowA ep (l ++ [p]) = rowA ep l ++ [.int .i64 p.1, .int .i64 p.2, .int .i64 ep] := by simp [rowA]
theorem owns_slice {w : World} {base n size : Nat} {e : TypeId} {v : Value} {xs : List Value} (h : w.ownsRow base e size v n xs) : ∃ a cp, v = .slice a n cp := by
  rcases h.2 with ⟨rfl, rfl⟩ | ⟨g, cp, cur, rfl, _⟩
  · exact ⟨none, 0, rfl⟩
  · exact ⟨_, cp, rfl⟩
/-- Three cells at the head of a block. -/
def Src3 (w : World) (g : Nat) (l : List Value) : Prop := (0 < 1 → ∃ ad, some (⟨g, 0, none⟩ : Addr) = some ad ∧ ∀ j u, l[j]? = some u → w.cell? (ad.add j) = some u) ∧ ∀ u ∈ l, u.oneCell' = true
theorem src3_new (w : World) (t : TypeId) (x y z : Int) : Src3 (w.alloc (.cells #[.int .i64 x, .int .i64 y, .int .i64 z] t)) w.heap.size [.int .i64 x, .int .i64 y, .int .i64 z] := by
  refine ⟨fun _ => ⟨_, rfl, fun j u hj => ?_⟩, fun u hu => ?_⟩
  · rw [add_plain, Nat.zero_add, (Blk.new w t #[.int .i64 x, .int .i64 y, .int .i64 z]).cell]
    simpa using hj
  · simp at hu
    rcases hu with rfl | rfl | rfl <;> rfl
/-- The balance behind a grant; what a boundary assigns and leaves; the balance behind it; what it spends. -/
def gr (B x : Int) : Int := B + (if 18446744073709551615 - B < x then 18446744073709551615 - B else x)
def stp (om : Int → Int) (F V : List Int) (B x : Int) : List (Int × Int) × List Int × List Int × Int := asg om F V (gr B x)
def balOf (r : List (Int × Int) × List Int × List Int × Int) : Int := if hdB r.2.1 r.2.2.1 = true then r.2.2.2 else 0

theorem rasg_app : ∃ i, Try.prog.info? 52 = some i ∧ i.zero = some (.agg #[.int .i64 0, .int .i64 0, .int .i64 0]) ∧ i.size = 3 ∧ i.bytes = 24 := by
  have h : (Try.prog.info? 52).map (fun i => (i.zero, i.size, i.bytes)) = some (some (.agg #[.int .i64 0, .int .i64 0, .int .i64 0]), 3, 24) := by kernel_rfl
  cases hi : Try.prog.info? 52 with
  | none => rw [hi] at h; cases h
  | some i =>
    rw [hi] at h
    simp at h
    exact ⟨i, rfl, h.1, h.2.1, h.2.2⟩
/-- The reference's lanes, meter and row of assignments where a boundary stands, seen from w. -/
def RInv (w : World) (d k nn : Nat) (S : Nat → Prop) (ep : Int) (wr : World) (v : Value) (out : List (Int × Int)) (F V : List Int) (B Sp : Int) : Prop :=
  ∃ T1 D1, RefAt wr (fun i => S i ∨ w.heap.size ≤ i) d nn F V ∧ MRefAt wr k B Sp T1 D1 ∧ FitsM B Sp T1 D1 ∧
    wr.ownsRow w.heap.size 52 3 v out.length (rowA ep out) ∧ Kept (fun i => i = d ∨ i = k) w wr ∧ k < w.heap.size ∧ d < w.heap.size ∧ S k ∧ d ≠ k
section
variable {w w1 wr w' : World} {d k nn : Nat} {S : Nat → Prop} {Sp ep B x : Int} {v : Value} {out : List (Int × Int)} {F V : List Int}
theorem RInv.drewN (h : RInv w d k nn S ep wr v out F V B Sp) (q : Nat) : RInv w d k nn S ep (wr.drewN q) v out F V B Sp := by
  obtain ⟨T1, D1, h1, h2, h3, h4, h5, h6⟩ := h
  exact ⟨T1, D1, h1, h2, h3, h4, h5.drewN q, h6⟩
theorem RInv.alloc (h : RInv w d k nn S ep wr v out F V B Sp) (o : Obj) : RInv w d k nn S ep (wr.alloc o) v out F V B Sp := by
  obtain ⟨T1, D1, h1, h2, h3, h4, h5, h6⟩ := h
  exact ⟨T1, D1, h1.kept (T := fun _ => False) ((Kept.refl _ _).alloc o) id (fun _ _ h => h.elim), Blk.alloc h2 o, h3, h4.alloc _, h5.alloc o, h6⟩
theorem RInv.head (h : RInv w d k nn S ep wr v out F V B Sp) : Calls Try.prog 38 #[.pointer (some ⟨d, 0, none⟩)] wr fun e w' => e = .returned (.tuple #[.int .i64 (hdI F V), .int .i64 (hdC F V), .bool (hdB F V)]) ∧ wr = w' := by
  obtain ⟨T1, D1, h1, _⟩ := h
  exact rhead_any h1
theorem RInv.refuse (h : RInv w d k nn S ep wr v out F V B Sp) (hx : ¬ x ≤ B) : Calls Try.prog 40 #[.pointer (some ⟨k, 0, none⟩), .int .u64 x] wr fun e w' => e = .returned (.bool false) ∧ ∃ q, w' = wr.drewN q := by
  obtain ⟨T1, D1, h1, h2, h3, _⟩ := h
  exact reftake_no k _ _ _ _ x wr h2 (by omega)
theorem RInv.meter (h : RInv w d k nn S ep wr v out F V B Sp) {B' Sp' T' D' : Int} (hm : MRefAt w' k B' Sp' T' D') (hN : FitsM B' Sp' T' D') (hg : wr.grownBy w' (some k)) : RInv w d k nn S ep w' v out F V B' Sp' := by
  obtain ⟨T1, D1, h1, h2, h3, h4, h5, h6, h7, h8, h9⟩ := h
  have kk : Kept (fun i => i = k) wr w' := Kept.of_grown hg (fun i e => by injection e)
  exact ⟨T', D', h1.kept kk h9 (fun i _ e => .inl (by rw [show i = k from e]; exact h8)), hm, hN, owns_kept h4 kk (fun g hg e => by have := (h4.lt g hg).1; have : g = k := e; omega), h5.trans kk (fun i _ e => .inr e), h6, h7, h8, h9⟩
theorem RInv.take (h : RInv w d k nn S ep wr v out F V B Sp) (x0 : 0 ≤ x) (hx : x ≤ B) : Calls Try.prog 40 #[.pointer (some ⟨k, 0, none⟩), .int .u64 x] wr fun e w' => e = .returned (.bool true) ∧ Hid (RInv w d k nn S ep w' v out F V (B - x) (Sp + x)) := by
  have h0 := h
  obtain ⟨T1, D1, h1, h2, h3, _⟩ := h
  obtain ⟨T', hT, hN, hG, hb⟩ := take_eq h3 x0 hx
  refine (reftake_yes k _ _ _ _ T' x wr h2 h3 x0 hx hT hG).mono ?_
  rintro e w' ⟨he, hm, hg⟩
  exact ⟨he, Lib.hid (h0.meter hm hN hg)⟩
theorem RInv.drop (h : RInv w d k nn S ep wr v out F V B Sp) : Calls Try.prog 39 #[.pointer (some ⟨k, 0, none⟩)] wr fun e w' => e = .returned (.int .u64 B) ∧ Hid (RInv w d k nn S ep w' v out F V 0 Sp) := by
  have h0 := h
  obtain ⟨T1, D1, h1, h2, h3, _⟩ := h
  obtain ⟨D', hD, hN, hG⟩ := drop_eq h3
  refine (refdrop_any k _ _ _ _ D' wr h2 hD hG).mono ?_
  rintro e w' ⟨he, hm, hg⟩
  exact ⟨he, Lib.hid (h0.meter hm hN hg)⟩
theorem RInv.pop (h : RInv w d k nn S ep wr v out F V B Sp) : Calls Try.prog 42 #[.pointer (some ⟨d, 0, none⟩)] wr fun e w' => e = .returned (.tuple #[.int .i64 (hdI F V), .int .i64 (hdC F V), .bool (hdB F V)]) ∧ Hid (RInv w d k nn S ep w' v out (popF F) (popV F V) B Sp) := by
  obtain ⟨T1, D1, h1, h2, h3, h4, h5, h6, h7, h8, h9⟩ := h
  refine (rpop_any h1).mono ?_
  rintro e w' ⟨he, hr, kk⟩
  exact ⟨he, Lib.hid ⟨T1, D1, hr, Blk.kept (w := wr) h2 kk (fun e => h9 (Eq.symm e)), h3, owns_kept h4 kk (fun g hg e => by have := (h4.lt g hg).1; have : g = d := e; omega), h5.trans kk (fun i _ e => .inl e), h6, h7, h8, h9⟩⟩
theorem RInv.app {v' : Value} {p : Int × Int} (h : RInv w d k nn S ep wr v out F V B Sp) (ho : w'.ownsRow w.heap.size 52 3 v' (out.length + 1) (rowA ep out ++ [.int .i64 p.1, .int .i64 p.2, .int .i64 ep])) (hg : wr.grownBy w' v.ownBlock) :
    RInv w d k nn S ep w' v' (out ++ [p]) F V B Sp := by
  obtain ⟨T1, D1, h1, h2, h3, h4, h5, h6, h7, h8, h9⟩ := h
  have kk : Kept (fun i => some i = v.ownBlock) wr w' := Kept.of_grown hg (fun i e => e)
  have hb : ∀ i, some i = v.ownBlock → w.heap.size ≤ i := fun i e => (h4.lt i (Eq.symm e)).1
  exact ⟨T1, D1, h1.kept kk (fun e => by have := hb d e; omega) (fun i _ e => .inr (hb i e)), Blk.kept (w := wr) h2 kk (fun e => by have := hb k e; omega), h3, by rw [rowA_snoc]; simpa using ho, h5.trans kk (fun i hi e => by have := hb i e; omega), h6, h7, h8, h9⟩
end
/-- What the reference's Step hands back and leaves. -/
def RStepPost (w : World) (d k nn : Nat) (S : Nat → Prop) (om : Int → Int) (F V : List Int) (B x ep : Int) (e : Ending) (w' : World) : Prop :=
  ∃ a c, e = .returned (.slice a (stp om F V B x).1.length c) ∧ Hid (RInv w d k nn S ep w' (.slice a (stp om F V B x).1.length c) (stp om F V B x).1 (stp om F V B x).2.1 (stp om F V B x).2.2.1 (balOf (stp om F V B x)) (gr B x - (stp om F V B x).2.2.2))
theorem rstep_end {w w' : World} {d k nn : Nat} {S : Nat → Prop} {om : Int → Int} {F V F1 V1 : List Int} {B x ep B1 : Int} {a : Option Addr} {c n : Nat} {out : List (Int × Int)} (hE : stp om F V B x = (out, F1, V1, B1)) (hn : n = out.length)
    (h : RInv w d k nn S ep w' (.slice a n c) out F1 V1 (if hdB F1 V1 = true then B1 else 0) (gr B x - B1)) : RStepPost w d k nn S om F V B x ep (.returned (.slice a n c)) w' := by
  subst hn
  refine ⟨a, c, by rw [hE], ?_⟩
  rw [hE]
  exact Lib.hid h
section
variable {w : World} {d k nn : Nat} {S : Nat → Prop} {B Sp T D x ep : Int} {F V L : List Int} {wa : Option Addr} {cap : Nat}
set_option maxHeartbeats 1600000 in
theorem rstep_any (hl : RefAt w S d nn F V) (hm : MRefAt w k B Sp T D) (hF : FitsM B Sp T D) (hS : S k) (hdk : d ≠ k) (hu : UAt w (fun i => i = d ∨ i = k) wa L) (hL : L.length ≤ 9223372036854775807) (hA : Amts L) (hx : 0 ≤ x) (he0 : 0 ≤ ep) (he1 : ep ≤ 1099511627776) :
    Calls Try.prog 21 #[.int .i64 ep, .pointer (some ⟨d, 0, none⟩), .pointer (some ⟨k, 0, none⟩), .int .u64 x, .slice wa L.length cap] w (RStepPost w d k nn S (wOf L) F V B x (ep + 1)) := by
  obtain ⟨j0, hj0, hz0, hz1, hz2⟩ := rasg_app
  obtain ⟨p, hp, hG, hN, hb, _⟩ := grant_eq hF hx
  have hgr : B + p = gr B x := by rw [gr, hp]
  have hsz : F.length ≤ 4096 ∧ V.length ≤ 4096 := by obtain ⟨_, _, _, _, _, _, _, _, _, h6, _, _, h9, h10⟩ := hl; omega
  have HG := Lib.hid ((refgrant_any k B Sp T D x p w hm hF hp hG hN).mono (R' := fun e w' => e = .returned (.tuple #[]) ∧ Hid (RInv w d k nn S (ep + 1) w' (.slice none 0 0) [] F V (B + p) 0))
    (fun e w' ⟨he, hm', hg⟩ => ⟨he, Lib.hid (by
      have kk : Kept (fun i => i = k) w w' := Kept.of_grown hg (fun i e => by injection e)
      exact ⟨T, D, (hl.other (T := fun i => S i ∨ w.heap.size ≤ i) (fun i hi e => e.elim id (fun e => by omega))).kept kk hdk (fun i _ e => .inl (by rw [show i = k from e]; exact hS)), hm', hN, World.ownsRow_nil _ _ _ _, kk.more (fun i _ e => .inr e), Blk.lt hm, hl.lt, hS, hdk⟩)⟩))
  rw [hgr] at HG
  have HU := Lib.hid hu
  have HA := Lib.hid hA
  have HL := Lib.hid hL
  have HN : Hid (F.length + V.length ≤ 8192) := Lib.hid (by omega)
  clear hl hm hF hS hdk hu hA hL hp hG hN hb hgr hx hsz
  go_enter Try.func21, Try.ntmps21
  go_wp2_with fail
  refine HG.out.mono ?_
  rintro e w0 ⟨rfl, H0⟩
  clear HG
  go_wp2_with fail
  go_loopg [11] (F.length + V.length) (fun g s11 wr => ∃ (F1 V1 : List Int) (B1 : Int) (out : List (Int × Int)) (q : Nat) (a : Option Addr) (c : Nat), F1.length + V1.length = g ∧ s11 = .slice a q c ∧ Hid (q = out.length ∧ q + g ≤ 8192) ∧
    Hid (RInv w d k nn S (ep + 1) wr (.slice a q c) out F1 V1 B1 (gr B x - B1)) ∧ Hid (stp (wOf L) F V B x = (out ++ (asg (wOf L) F1 V1 B1).1, (asg (wOf L) F1 V1 B1).2)))
  case atStart => exact ⟨F, V, gr B x, [], 0, none, 0, rfl, rfl, Lib.hid ⟨rfl, by have := HN.out; omega⟩, by rw [Int.sub_self]; exact H0, Lib.hid rfl⟩
  case round =>
    clear H0 HN
    obtain ⟨F1, V1, B1, out, q, a, c, hg, rfl, HK, HP, HE⟩ := hrel
    have HQ := Lib.hid hg
    clear hg
    go_wp2_with fail
    refine HP.out.head.mono ?_
    rintro e w1 ⟨rfl, rfl⟩
    have HU1 : Hid (UAt wr (fun _ => False) wa L) := Lib.hid (by
      obtain ⟨_, _, _, _, _, _, k5, _⟩ := HP.out
      exact (HU.out.kept k5 (fun _ _ h => h)).other (fun _ _ h => h.elim))
    cases hb : hdB F1 V1
    · have HD := Lib.hid HP.out.drop
      have HR : Hid (∀ w', RInv w d k nn S (ep + 1) w' (.slice a q c) out F1 V1 0 (gr B x - B1) → RStepPost w d k nn S (wOf L) F V B x (ep + 1) (.returned (.slice a q c)) w') := Lib.hid (fun w' h => by
        have e1 := HE.out
        rw [(asg_none hb).1, List.append_nil] at e1
        exact rstep_end e1 HK.out.1 (by rw [hb]; exact h))
      clear HP HU1 HE HK hb HQ
      go_wp2_with fail
      refine HD.out.mono ?_
      rintro e w2 ⟨rfl, HP2⟩
      have H6 := Lib.hid (HR.out _ HP2.out)
      clear HP2 HR HD
      go_wp2
      try rw [Exit.noGoto_ret]
      go_ret
      exact H6.out
    · have HB := Lib.hid hb
      clear hb
      obtain ⟨y, hy⟩ : ∃ y, wOf L (hdI F1 V1) = y := ⟨_, rfl⟩
      have hi := fun w h => of_any (S := fun _ => False) (a := wa) cap (hdI F1 V1) w h HL.out
      rw [hy] at hi
      have HI := Lib.hid hi
      have HX := Lib.hid hy
      have hx0 := wOf_amt HA.out (hdI F1 V1)
      rw [hy] at hx0
      have HX0 := Lib.hid hx0
      clear hi hy hx0
      by_cases hle : y ≤ B1
      · have HT := Lib.hid (HP.out.take HX0.out.1 hle)
        have HE2 : Hid (stp (wOf L) F V B x = ((out ++ [(hdI F1 V1, hdC F1 V1)]) ++ (asg (wOf L) (popF F1) (popV F1 V1) (B1 - y)).1, (asg (wOf L) (popF F1) (popV F1 V1) (B1 - y)).2)) := Lib.hid (by
          have e1 := HE.out
          rw [asg_next HB.out (by rw [HX.out]; exact hle), HX.out] at e1
          rw [e1]; simp)
        have HG2 : Hid ((popF F1).length + (popV F1 V1).length + 1 = gk) := Lib.hid (by have := pop_len HB.out; have := HQ.out; omega)
        clear hle HE HX HX0 HP
        go_wp2_with fail
        refine (HI.out _ HU1.out).mono ?_
        rintro e w' ⟨rfl, rfl⟩
        go_wp2_with fail
        refine HT.out.mono ?_
        rintro e w2 ⟨rfl, HP2⟩
        clear HT HI HU1
        go_wp2_with fail
        refine HP2.out.pop.mono ?_
        rintro e w3 ⟨rfl, HP3⟩
        clear HP2
        generalize popF F1 = F2 at *
        generalize popV F1 V1 = V2 at *
        generalize hdI F1 V1 = ix at *
        generalize hdC F1 V1 = ic at *
        generalize hdB F1 V1 = ib at *
        have HP4 : Hid (RInv w d k nn S (ep + 1) (w3.alloc (.cells #[.int .i64 ix, .int .i64 ic, .int .i64 (ep + 1)] 52)) (.slice a q c) out F2 V2 (B1 - y) (gr B x - (B1 - y))) := Lib.hid (by
          have := HP3.out.alloc (.cells #[.int .i64 ix, .int .i64 ic, .int .i64 (ep + 1)] 52)
          rw [show gr B x - B1 + y = gr B x - (B1 - y) by omega] at this
          exact this)
        have HO4 : Hid ((w3.alloc (.cells #[.int .i64 ix, .int .i64 ic, .int .i64 (ep + 1)] 52)).ownsRow w.heap.size 52 3 (.slice a q c) q (rowA (ep + 1) out) ∧ w.heap.size ≤ w3.heap.size) := Lib.hid (by
          obtain ⟨_, _, _, _, _, k4, _⟩ := HP4.out
          obtain ⟨_, _, _, _, _, _, k5, _⟩ := HP3.out
          exact ⟨by rw [← HK.out.1] at k4; exact k4, k5.size⟩)
        have hkb : q ≤ 8192 := by have := HK.out.2; omega
        have HN1 : Hid (Src3 (w3.alloc (.cells #[.int .i64 ix, .int .i64 ic, .int .i64 (ep + 1)] 52)) w3.heap.size [.int .i64 ix, .int .i64 ic, .int .i64 (ep + 1)]) := Lib.hid (src3_new w3 _ ix ic (ep + 1))
        clear HP3
        go_wp2_with (at_builtin; refine wpList_append_src _ rfl (.tmp 38) (.tmp 44) 49 rfl w.heap.size 52 j0 _ 3 24 Try.underlying49 hj0 hz0 hz1 hz2 rfl (by decide) (.slice a q c) q (rowA (ep + 1) out) rfl HO4.out.1 (some ⟨w3.heap.size, 0, none⟩) 1 1 [.int .i64 ix, .int .i64 ic, .int .i64 (ep + 1)] rfl rfl HN1.out.1 HN1.out.2 (by unfold maxLen; omega) (by omega) (by have := HO4.out.2; simp; omega) ?_)
        intro v' w5 ho5 hg5 ha5
        have HP5 : Hid (RInv w d k nn S (ep + 1) w5 v' (out ++ [(ix, ic)]) F2 V2 (B1 - y) (gr B x - (B1 - y))) := Lib.hid (HP4.out.app (p := (ix, ic)) (by rw [← HK.out.1]; exact ho5) hg5)
        obtain ⟨a5, c5, rfl⟩ := owns_slice ho5
        have HK5 : Hid (q + 1 = (out ++ [(ix, ic)]).length ∧ q + 1 + (gk - 1) ≤ 8192) := Lib.hid ⟨by rw [List.length_append, HK.out.1]; rfl, by have := HK.out.2; have := HG2.out; omega⟩
        have HGG : Hid (F2.length + V2.length = gk - 1 ∧ 0 < gk) := Lib.hid (by have := HG2.out; omega)
        clear ho5 hg5 ha5 HP4 HO4 HK HQ HG2 hkb HN1
        go_wp2
        go_roundg (gk - 1)
        case measure => have := HGG.out.2; omega
        case rel => exact ⟨F2, V2, B1 - y, out ++ [(ix, ic)], q + 1, a5, c5, HGG.out.1, rfl, HK5, HP5, HE2⟩
      · have HT := Lib.hid (HP.out.refuse hle)
        have HR : Hid (∀ q', RStepPost w d k nn S (wOf L) F V B x (ep + 1) (.returned (.slice a q c)) (wr.drewN q')) := Lib.hid (fun q' => by
          have e1 := HE.out
          rw [asg_wait HB.out (by rw [HX.out]; exact hle), List.append_nil] at e1
          exact rstep_end e1 HK.out.1 (by rw [if_pos HB.out]; exact HP.out.drewN q'))
        clear HP HE HK HX HQ
        go_wp2_with fail
        refine (HI.out _ HU1.out).mono ?_
        rintro e w' ⟨rfl, rfl⟩
        go_wp2_with fail
        refine HT.out.mono ?_
        rintro e w2 ⟨rfl, q2, rfl⟩
        clear HT HI HU1
        go_wp2
        try rw [Exit.noGoto_ret]
        go_ret
        exact HR.out _
end
end Go.Proofs.Ytjleklhajmhekaa
