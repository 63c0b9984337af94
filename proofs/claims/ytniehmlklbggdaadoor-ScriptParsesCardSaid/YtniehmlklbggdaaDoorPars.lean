/- Parse, the program's. -/
import Derived.Test.YtniehmlklbggdaaDoorForm
import Derived.Test.YtniehmlklbggdaaDoorStructs
namespace Go.Proofs.YtniehmlklbggdaaDoor
open Go Go.RowKit
set_option linter.unusedVariables false
set_option linter.unusedSimpArgs false
set_option maxRecDepth 100000

def updI (f : Nat → Int) (p : Nat) (x : Int) : Nat → Int := fun q => if q = p then x else f q
/-- What is left of the line and what the fields hold when p places are done. -/
def prF (k : Int) (r : List UInt8) : Nat → List UInt8 × (Nat → Int)
  | 0 => (r, fun _ => 0)
  | p + 1 => if usesB k (plO p) = true then ((cutP 32 (prF k r p).1).2, updI (prF k r p).2 p (refN (cutP 32 (prF k r p).1).1)) else prF k r p
theorem prF_yes {k : Int} {r : List UInt8} {p : Nat} (h : usesB k (plO p) = true) : prF k r (p + 1) = ((cutP 32 (prF k r p).1).2, updI (prF k r p).2 p (refN (cutP 32 (prF k r p).1).1)) := by rw [prF, if_pos h]
theorem prF_no {k : Int} {r : List UInt8} {p : Nat} (h : usesB k (plO p) = false) : prF k r (p + 1) = prF k r p := by rw [prF, if_neg (by rw [h]; decide)]
theorem prF_cand {k : Int} {ds : List Od} (h : ods k = some ds) (r : List UInt8) : candF ds r ⟨k, 0, 0, 0⟩ = ⟨k, IntKind.i64.wrap ((prF k r 3).2 0), IntKind.i64.wrap ((prF k r 3).2 1), (prF k r 3).2 2⟩ := by
  have w0 : IntKind.i64.wrap 0 = 0 := rfl
  rcases ods_cases k with ⟨_, e⟩ | ⟨_, e⟩ | ⟨_, e⟩ | ⟨_, e⟩ | ⟨_, e⟩ | ⟨_, e⟩ | ⟨_, e⟩ | ⟨_, e⟩
  all_goals
    rw [h] at e
    first
      | cases e; done
      | (injection e with e; subst e; simp [candF, prF, usesB, h, plO, Od.set, updI, w0])
theorem cutP_len (c : UInt8) : ∀ l : List UInt8, (cutP c l).1.length ≤ l.length ∧ (cutP c l).2.length ≤ l.length
  | [] => by simp [cutP]
  | x :: l => by
    have := cutP_len c l
    rw [cutP]
    split
    · simp
    · simp; omega
theorem celF_set {f : Nat → Int} {p : Nat} (hp : p < 3) (x : Int) : (celF (f 0) (f 1) (f 2)).setIfInBounds p (.int .u64 x) = celF (updI f p x 0) (updI f p x 1) (updI f p x 2) := by
  obtain rfl | rfl | rfl : p = 0 ∨ p = 1 ∨ p = 2 := by omega
  all_goals rfl
theorem ods_pos {n : Nat} (h0 : n ≠ 0) (h7 : n ≤ 7) : ∃ ds, ods (n : Int) = some ds := by
  rcases ods_cases (n : Int) with ⟨_, e⟩ | ⟨_, e⟩ | ⟨_, e⟩ | ⟨_, e⟩ | ⟨_, e⟩ | ⟨_, e⟩ | ⟨_, e⟩ | ⟨h, _⟩
  all_goals first | exact ⟨_, e⟩ | omega
theorem fits_kd {k : Int} (h : (Lit.int .i64 k).wf = true) : FitsOq ⟨k, 0, 0, 0⟩ := ⟨h, show (Lit.int .i64 0).wf = true by decide, show (Lit.int .i64 0).wf = true by decide, show (Lit.int .u64 0).wf = true by decide⟩
theorem bs_size (l : List UInt8) : (bs l).size = l.length := rfl
theorem bs_list (l : List UInt8) : (bs l).data.toList = l := rfl
theorem parse_ret {Q : Ending → World → Prop} {c : Act} {w : World} {g : Nat} {o : Oq} {b : Bool} (h4 : c.tmps.getD 2 undef = .pointer (some ⟨g, 0, none⟩)) (h5 : c.tmps.getD 3 undef = .bool b) (hd : c.defers = []) (hg : Blk w g 35 (cellsOq o))
    (h : Q (.returned (.tuple #[.agg (cellsOq o), .bool b])) w) : bodyPost Tryd.prog Tryd.f17 Q .ret c w := by
  refine bodyPost_ret (v := .tuple #[.agg (cellsOq o), .bool b]) ?_ hd h
  have := results_cell_row2 (P := Tryd.prog) (fn := Tryd.f17) rfl c.tmps w g 35 (cellsOq o) (0, 0) _ h4 hg Tryd.underlying35 rfl infoOq
  rw [h5] at this
  exact this
set_option maxHeartbeats 3200000 in
theorem parse_any (s : ByteArray) (w : World) (hs : s.size ≤ 90000) (hv : Vars w) :
    Calls Tryd.prog 17 #[.string s] w fun e w' => e = .returned (.tuple #[.agg (cellsOq (parD s.data.toList)), .bool (parL s.data.toList).isSome]) ∧ Below w.heap.size w w' := by
  have HV := Lib.hid hv
  have B0 : Hid (Below w.heap.size w (w.alloc (.cells (cellsOq oqZ) 35))) := Lib.hid ((Below.refl _ _).alloc (Nat.le_refl _) _)
  have K0 : Hid (Blk (w.alloc (.cells (cellsOq oqZ) 35)) w.heap.size 35 (cellsOq oqZ)) := Lib.hid (Blk.new w _ _)
  have hz : cellsOq oqZ = #[.int .i64 0, .int .i64 0, .int .i64 0, .int .u64 0] := rfl
  have HZ := Lib.hid hz
  rw [hz] at B0 K0
  have HCN : Hid (posN (bs (cutP 32 s.data.toList).1) = 0 → parL s.data.toList = none) := Lib.hid cand_none
  have HCY : Hid (∀ (ds : List Od) (c : Oq), ods ((posN (bs (cutP 32 s.data.toList).1) : Nat) : Int) = some ds → c = candF ds (cutP 32 s.data.toList).2 ⟨((posN (bs (cutP 32 s.data.toList).1) : Nat) : Int), 0, 0, 0⟩ → lineL c = s.data.toList → parL s.data.toList = some c) := Lib.hid fun ds c h1 h2 h3 => cand_yes h1 h2 h3
  have HCX : Hid (∀ (ds : List Od) (c : Oq), ods ((posN (bs (cutP 32 s.data.toList).1) : Nat) : Int) = some ds → c = candF ds (cutP 32 s.data.toList).2 ⟨((posN (bs (cutP 32 s.data.toList).1) : Nat) : Int), 0, 0, 0⟩ → lineL c ≠ s.data.toList → parL s.data.toList = none) := Lib.hid fun ds c h1 h2 h3 => cand_no h1 h2 h3
  have hlen : s.data.toList.length = s.size := by simp
  have HLN := Lib.hid (cutP_len 32 s.data.toList)
  rw [hlen] at HLN
  have HC := Lib.hid (fun w => cut_any s 32 w (by omega))
  have HPD : Hid (parD s.data.toList = (parL s.data.toList).getD oqZ) := Lib.hid rfl
  generalize parD s.data.toList = PD at *
  generalize parL s.data.toList = PL at *
  obtain ⟨X, hX⟩ : ∃ X, (cutP 32 s.data.toList).1 = X := ⟨_, rfl⟩
  obtain ⟨R, hR⟩ : ∃ R, (cutP 32 s.data.toList).2 = R := ⟨_, rfl⟩
  rw [hX] at HC HCN HCY HCX HLN
  rw [hR] at HC HCY HCX HLN
  have HK := Lib.hid (fun w h => kind_any (bs X) w h)
  obtain ⟨kp, hkp⟩ : ∃ kp, posN (bs X) = kp := ⟨_, rfl⟩
  have HP7 := Lib.hid ((posN_iff (bs X)).1)
  rw [hkp] at HK HCN HCY HCX HP7
  clear hv hz hX hR hkp hlen
  generalize bs X = name at *
  by_cases h0 : kp = 0
  · have HPN : Hid (PL = none) := Lib.hid (HCN.out h0)
    have hb : (kp != 0) = false := by simp [h0]
    rw [hb] at HK
    clear h0 hb
    go_enter Tryd.func17, Tryd.ntmps17
    go_upto_region 1 with (fail)
    generalize w.alloc (.cells #[.int .i64 0, .int .i64 0, .int .i64 0, .int .u64 0] 35) = W at *
    go_wp2_with (fail)
    refine (HC.out W).mono ?_
    rintro e w1 ⟨fb, rfl, b1⟩
    have B1 := Lib.hid (B0.out.trans (b1.mono B0.out.size))
    have K1 := Lib.hid (K0.out.below b1 K0.out.lt)
    clear b1 B0 K0
    go_wp2_with (fail)
    refine (HK.out w1 (HV.out.below B1.out).names).mono ?_
    rintro e w2 ⟨rfl, rfl⟩
    go_wp2_with (first | (refine wpList_build_Oq rfl 35 _ rfl oqZ (by kernel_rfl) ?_) | (refine wpList_store_row rfl _ _ _ rfl w.heap.size (cellsOq oqZ) rfl rfl 35 _ K1.out infoOq rfl (cellsOq_one _) ?_))
    exact parse_ret rfl rfl rfl (K1.out.setRow _) ⟨by rw [HPD.out, HPN.out]; rfl, below_setRow B1.out (Nat.le_refl _) _⟩
  · have hb : (kp != 0) = true := by simpa using h0
    rw [hb] at HK
    obtain ⟨ds, hds⟩ := ods_pos h0 HP7.out
    have HDS := Lib.hid hds
    have HPC := Lib.hid (prF_cand hds R)
    have HRL : Hid (R.length ≤ s.size) := Lib.hid HLN.out.2
    have hwf : (Lit.int .i64 (kp : Int)).wf = true := WalkArith.wf_i64 (by have := HP7.out; omega)
    have HIO := Lib.hid (fun p hp w => isop_any (kp : Int) p hp hwf w)
    have HCF := Lib.hid (candF_fits ds R ⟨(kp : Int), 0, 0, 0⟩ (fits_kd hwf))
    have HSZ := Lib.hid hs
    have HKW := Lib.hid hwf
    clear h0 hb hds hwf
    go_enter Tryd.func17, Tryd.ntmps17
    go_upto_region 1 with (fail)
    generalize w.alloc (.cells #[.int .i64 0, .int .i64 0, .int .i64 0, .int .u64 0] 35) = W at *
    go_wp2_with (fail)
    refine (HC.out W).mono ?_
    rintro e w1 ⟨fb, rfl, b1⟩
    have B1 := Lib.hid (B0.out.trans (b1.mono B0.out.size))
    have K1 := Lib.hid (K0.out.below b1 K0.out.lt)
    clear b1 B0 K0
    go_wp2_with (fail)
    refine (HK.out w1 (HV.out.below B1.out).names).mono ?_
    rintro e w2 ⟨rfl, rfl⟩
    have ba : Below w1.heap.size w1 (w1.alloc (.cells #[.int .u64 0, .int .u64 0, .int .u64 0] 56)) := (Below.refl _ _).alloc (Nat.le_refl _) _
    have B2 := Lib.hid (B1.out.trans (ba.mono B1.out.size))
    have K2 := Lib.hid (K1.out.below ba K1.out.lt)
    have F2 : Hid (Blk (w1.alloc (.cells #[.int .u64 0, .int .u64 0, .int .u64 0] 56)) w1.heap.size 56 (celF ((prF kp R 0).2 0) ((prF kp R 0).2 1) ((prF kp R 0).2 2))) := Lib.hid (Blk.new w1 _ _)
    have ZG : Hid (w.heap.size < w1.heap.size) := Lib.hid K1.out.lt
    clear ba B1 K1
    go_upto_region 6 with (fail)
    generalize w1.alloc (.cells #[.int .u64 0, .int .u64 0, .int .u64 0] 56) = w2 at *
    generalize w1.heap.size = g at *
    go_wp2_with (fail)
    go_loopw [5, 27] (fun r i wr => ∃ (p : Nat) (Q : List UInt8), p ≤ 3 ∧ i = .int .i64 p ∧ r = .string (bs Q) ∧ Hid (Q = (prF kp R p).1) ∧ Hid (Q.length ≤ s.size) ∧ Hid (Blk wr g 56 (celF ((prF kp R p).2 0) ((prF kp R p).2 1) ((prF kp R p).2 2))) ∧ Hid (Blk wr w.heap.size 35 #[.int .i64 0, .int .i64 0, .int .i64 0, .int .u64 0]) ∧ Hid (Below w.heap.size w wr)) (fun _ i _ => 3 - (intOf i).toNat)
    case atStart => exact ⟨0, R, by omega, rfl, rfl, Lib.hid rfl, HRL, F2, K2, B2⟩
    case round =>
      clear B2 K2 F2
      obtain ⟨p, Q, hp, rfl, rfl, HQ, HQL, F3, K3, B3⟩ := hrel
      by_cases hlt : p < 3
      · have hp3 : (p : Int) < 3 := by omega
        have hp0 : ¬ (p : Int) < 0 := by omega
        have HLT := Lib.hid hlt
        clear hlt
        go_wp2_with (fail)
        refine (HIO.out p HLT.out wr).mono ?_
        rintro e w4 ⟨rfl, b4⟩
        have B4 := Lib.hid (B3.out.trans (b4.mono B3.out.size))
        have K4 := Lib.hid (K3.out.below b4 K3.out.lt)
        have F4 := Lib.hid (F3.out.below b4 F3.out.lt)
        clear b4 B3 K3 F3
        rcases huse : usesB (kp : Int) (plO p) with _ | _
        · have HP2 := Lib.hid (prF_no (r := R) huse)
          clear huse
          go_wp2_with (fail)
          go_roundw
          case rel => exact ⟨p + 1, Q, by omega, by go_num, rfl, Lib.hid (by rw [HP2.out, HQ.out]), HQL, Lib.hid (by rw [HP2.out]; exact F4.out), K4, B4⟩
          case measure => simp [intOf]; omega
        · have HP2 := Lib.hid (prF_yes (r := R) huse)
          rw [← HQ.out] at HP2
          have HC2 := Lib.hid (fun w => cut_any (bs Q) 32 w (by rw [bs_size]; have := HQL.out; have := HSZ.out; omega))
          rw [bs_list] at HC2
          have HL2 := Lib.hid (cutP_len 32 Q)
          obtain ⟨Y, hY⟩ : ∃ Y, (cutP 32 Q).1 = Y := ⟨_, rfl⟩
          obtain ⟨Q', hQ'⟩ : ∃ Q', (cutP 32 Q).2 = Q' := ⟨_, rfl⟩
          rw [hY, hQ'] at HC2 HP2 HL2
          have HGP := Lib.hid (fun w h1 h2 => gparse_any (bs Y) w (by rw [bs_size]; have := HL2.out; have := HQL.out; have := HSZ.out; omega) h1 h2)
          rw [bs_list] at HGP
          have hrn := refN_lt Y
          obtain ⟨x, hx⟩ : ∃ x, refN Y = x := ⟨_, rfl⟩
          obtain ⟨xo, hxo⟩ : ∃ x, refOk Y = x := ⟨_, rfl⟩
          rw [hx] at HGP HP2
          rw [hxo] at HGP
          clear huse hY hQ' hrn hx hxo
          generalize bs Y = word at *
          go_wp2_with (fail)
          refine (HC2.out w4).mono ?_
          rintro e w5 ⟨fb2, rfl, b5⟩
          have B5 := Lib.hid (B4.out.trans (b5.mono B4.out.size))
          have K5 := Lib.hid (K4.out.below b5 K4.out.lt)
          have F5 := Lib.hid (F4.out.below b5 F4.out.lt)
          clear b5 B4 K4 F4
          go_wp2_with (fail)
          refine (HGP.out w5 (HV.out.below B5.out).pow (HV.out.below B5.out).errs).mono ?_
          rintro e w6 ⟨rfl, b6⟩
          have B6 := Lib.hid (B5.out.trans (b6.mono B5.out.size))
          have K6 := Lib.hid (K5.out.below b6 K5.out.lt)
          have F6 := Lib.hid (F5.out.below b6 F5.out.lt)
          clear b6 B5 K5 F5
          have hc6 : ∃ v, w6.cell? ⟨g, p, none⟩ = some v := by
            have h3 := HLT.out
            rw [F6.out.cell p]
            obtain rfl | rfl | rfl : p = 0 ∨ p = 1 ∨ p = 2 := by omega
            all_goals exact ⟨_, rfl⟩
          obtain ⟨v6, hc6⟩ := hc6
          have hf6 : w6.frozen? ⟨g, p, none⟩ = false := F6.out.frozen p
          go_wp2_with (fail)
          go_roundw
          case rel => exact ⟨p + 1, Q', by omega, by go_num, rfl, Lib.hid (by rw [HP2.out]), Lib.hid (by have := HL2.out; have := HQL.out; omega), Lib.hid (by rw [HP2.out, ← celF_set HLT.out]; exact F6.out.set_ p _), Lib.hid (K6.out.far (fun e => Nat.ne_of_lt ZG.out e) _), Lib.hid (B6.out.setCell (Nat.le_of_lt ZG.out) _)⟩
          case measure => simp [intOf]; omega
      · obtain rfl : p = 3 := by omega
        clear hlt
        have HCN2 := HPC.out
        obtain ⟨x0, hx0⟩ : ∃ x, (prF kp R 3).2 0 = x := ⟨_, rfl⟩
        obtain ⟨x1, hx1⟩ : ∃ x, (prF kp R 3).2 1 = x := ⟨_, rfl⟩
        obtain ⟨x2, hx2⟩ : ∃ x, (prF kp R 3).2 2 = x := ⟨_, rfl⟩
        rw [hx0, hx1, hx2] at F3 HCN2
        have HJ := Lib.hid (fun w => join_any kp x0 x1 x2 w)
        obtain ⟨c, hc⟩ : ∃ c, (⟨(kp : Int), IntKind.i64.wrap x0, IntKind.i64.wrap x1, x2⟩ : Oq) = c := ⟨_, rfl⟩
        rw [hc] at HJ HCN2
        have HCC := Lib.hid HCN2
        have HFC : Hid (FitsOq c) := Lib.hid (by rw [← HCN2]; exact HCF.out)
        have HFM := Lib.hid (fun w h => format_any c HFC.out w h)
        clear hx0 hx1 hx2 hc HCN2
        go_wp2_with (refine wpList_load_row rfl 56 _ rfl g rfl 56 (celF x0 x1 x2) (0, 0) _ F3.out Tryd.underlying56 rfl infoF ?_)
        refine (HJ.out wr).mono ?_
        rintro e w4 ⟨rfl, b4⟩
        have b5 : Below w4.heap.size w4 (w4.alloc (.cells (cellsOq c) 35)) := (Below.refl _ _).alloc (Nat.le_refl _) _
        have B4 := Lib.hid (B3.out.trans (b4.mono B3.out.size))
        have K4 := Lib.hid (K3.out.below b4 K3.out.lt)
        have B5 := Lib.hid (B4.out.trans (b5.mono B4.out.size))
        have K5 := Lib.hid (K4.out.below b5 K4.out.lt)
        have C5 : Hid (Blk (w4.alloc (.cells (cellsOq c) 35)) w4.heap.size 35 (cellsOq c)) := Lib.hid (Blk.new w4 _ _)
        clear b4 b5 B3 K3 F3 B4 K4 HJ
        go_upto_region 15 with (refine wpList_store_row rfl _ _ _ rfl w4.heap.size (cellsOq c) rfl rfl 35 _ (heap_alloc_new w4 _) infoOq rfl (cellsOq_one _) ?_; rw [World.setRow_alloc_new])
        generalize w4.alloc (.cells (cellsOq c) 35) = w5 at *
        generalize w4.heap.size = h at *
        go_wp2_with (refine wpList_load_row rfl 35 _ rfl h rfl 35 (cellsOq c) (0, 0) _ C5.out Tryd.underlying35 rfl infoOq ?_)
        refine (HFM.out w5 (HV.out.below B5.out)).mono ?_
        rintro e w6 ⟨rfl, b6⟩
        have B6 := Lib.hid (B5.out.trans (b6.mono B5.out.size))
        have K6 := Lib.hid (K5.out.below b6 K5.out.lt)
        have C6 := Lib.hid (C5.out.below b6 C5.out.lt)
        clear b6 B5 K5 C5 HFM
        by_cases he : lineL c = s.data.toList
        · have HPN : Hid (PL = some c) := Lib.hid (HCY.out ds c HDS.out HCC.out.symm he)
          have hse : bs (lineL c) = s := by rw [he]; exact bs_self s
          rw [hse]
          have heq := str_eq s
          have hne : (s.toList != s.toList) = false := by simp
          clear he hse
          go_wp2_with (first | (refine wpList_load_row rfl 35 _ rfl h rfl 35 (cellsOq c) (0, 0) _ C6.out Tryd.underlying35 rfl infoOq ?_) | (refine wpList_store_row rfl _ _ _ rfl w.heap.size (cellsOq c) rfl rfl 35 _ K6.out infoOq rfl (cellsOq_one _) ?_))
          exact parse_ret rfl rfl rfl (K6.out.setRow _) ⟨by rw [HPD.out, HPN.out]; rfl, below_setRow B6.out (Nat.le_refl _) _⟩
        · have HPN : Hid (PL = none) := Lib.hid (HCX.out ds c HDS.out HCC.out.symm he)
          have heq := str_ne (a := bs (lineL c)) (b := s) (fun e => he (by rw [← e]; rfl))
          have hne : ((bs (lineL c)).toList != s.toList) = true := by simpa using heq
          clear he
          generalize bs (lineL c) = F at *
          go_wp2_with (first | (refine wpList_build_Oq rfl 35 _ rfl oqZ (by kernel_rfl) ?_) | (refine wpList_store_row rfl _ _ _ rfl w.heap.size (cellsOq oqZ) rfl rfl 35 _ K6.out infoOq rfl (cellsOq_one _) ?_))
          exact parse_ret rfl rfl rfl (K6.out.setRow _) ⟨by rw [HPD.out, HPN.out]; rfl, below_setRow B6.out (Nat.le_refl _) _⟩
end Go.Proofs.YtniehmlklbggdaaDoor
