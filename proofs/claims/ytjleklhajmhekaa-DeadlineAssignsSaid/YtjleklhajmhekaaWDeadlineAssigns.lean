/- The walk of DeadlineAssigns. -/
import Derived.Test.YtjleklhajmhekaaAs
import Derived.Deep.Cut
import Derived.Deep.CutRange
namespace Go.Proofs.Ytjleklhajmhekaa
open Go Go.RowKit Go.Deep
set_option linter.unusedVariables false
set_option linter.unusedSimpArgs false
set_option maxRecDepth 100000

/-- The last epoch, for weights as small as the law's. -/
theorem exit_last {c : Nat → Int} (hg : Good c) {R y : Int} (R0 : 0 ≤ R) (R1 : R ≤ 5100) (y0 : 0 ≤ y) (y1 : y ≤ 255) (hc : c 9 ≤ 10000) :
    ∃ K : Int, 1 ≤ K ∧ K ≤ 20000 ∧ exitG R y c 0 = some (K + 1) ∧ R + y + c 9 ≤ K * c 7 := by
  have h9 := hg.fcp0
  have h7 := hg.chu0
  have hl : ceilQ (R + y + c 9) (c 7) ≤ R + y + c 9 := ceilQ_least h7 (by
    have := Int.mul_le_mul_of_nonneg_left h7 (show 0 ≤ R + y + c 9 by omega)
    omega)
  have hcv := ceilQ_cover (R + y + c 9) (c 7) h7
  have hb := bnd_some (a := R) (x := y) (c := c) (by omega) (by omega)
  refine ⟨max 1 (ceilQ (R + y + c 9) (c 7)), by omega, by omega, ?_, ?_⟩
  · rw [exitG_eq, lastE_is hb (by omega) (by omega)]
    congr 1; omega
  · have : ceilQ (R + y + c 9) (c 7) * c 7 ≤ max 1 (ceilQ (R + y + c 9) (c 7)) * c 7 := Int.mul_le_mul_of_nonneg_right (by omega) (by omega)
    omega
theorem exit_calls {c : Nat → Int} (hg : Good c) {R y K : Int} (R0 : 0 ≤ R) (R1 : R ≤ 5100) (y0 : 0 ≤ y) (y1 : y ≤ 255) (hK : exitG R y c 0 = some (K + 1)) (w : World) :
    Calls Try.prog 13 #[.int .i64 0, .int .u64 R, .int .u64 y, .agg (cellsOf c)] w fun o w' => o = .returned (.tuple #[.int .i64 (K + 1), .bool true]) ∧ Below w.heap.size w w' := by
  have := exit_at hg (a := R) (x := y) ⟨R0, by omega⟩ ⟨y0, by omega⟩ 0 w
  rwa [hK] at this
theorem u64_app : ∃ i, Try.prog.info? 22 = some i ∧ i.zero = some (.int .u64 0) ∧ i.size = 1 ∧ i.bytes = 8 := by
  have h : (Try.prog.info? 22).map (fun i => (i.zero, i.size, i.bytes)) = some (some (.int .u64 0), 1, 8) := by kernel_rfl
  cases hi : Try.prog.info? 22 with
  | none => rw [hi] at h; cases h
  | some i =>
    rw [hi] at h
    simp at h
    exact ⟨i, rfl, h.1, h.2.1, h.2.2⟩
theorem src_amt (w : World) (x : Int) : (0 < 1 → ∃ ad, some (⟨w.heap.size, 0, none⟩ : Addr) = some ad ∧ ∀ j u, [Value.int .u64 x][j]? = some u → (w.alloc (.cells #[.int .u64 x] 22)).cell? (ad.add j) = some u) ∧ ∀ u ∈ [Value.int .u64 x], u.oneCell' = true :=
  ⟨fun _ => ⟨_, rfl, fun j u hu => by
    rw [add_plain, Nat.zero_add, (Blk.new w 22 #[.int .u64 x]).cell]
    simpa using hu⟩, fun u hu => by simp at hu; subst hu; rfl⟩
theorem Keeps.next {B b t : Nat} {cs : Array Value} {w0 w w' : World} (hk : Keeps B b t cs w0 w) (hb : Below w.heap.size w w') : Keeps B b t cs w0 w' :=
  ⟨hk.1.below hb hk.1.lt, hk.2.1.trans (hb.mono hk.2.2), Nat.le_trans hk.2.2 hb.size⟩
/-- A weight is appended. -/
theorem As.app1 {w0 wr w4 : World} {c : Nat → Int} {d k : Nat} {a : Option Addr} {cp : Nat} {L F V : List Int} {B x : Int} {v' : Value} (h : As w0 wr c d (.slice a k cp) L F V B) (hk : L.length = k)
    (ho : w4.ownsRow (d + 2) 22 1 v' (k + 1) (L.map (Value.int .u64) ++ [.int .u64 x])) (hg : (wr.alloc (.cells #[.int .u64 x] 22)).grownBy w4 (Value.slice a k cp).ownBlock) (ha : v'.ownBlock = (Value.slice a k cp).ownBlock ∨ v'.ownBlock = some (wr.alloc (.cells #[.int .u64 x] 22)).heap.size) :
    As w0 w4 c d v' (L ++ [x]) F V B := (h.below ((Below.refl _ _).alloc (Nat.le_refl _) _)).app (by rw [hk]; exact ho) hg ha
theorem pushes0 {F V : List Int} (x : Int) (h : F.length < 100) : pushF 100 F 0 x = F ++ [x] ∧ pushV 100 V 0 x = V := by simp [pushF, pushV, h]
theorem pushes1 {F V : List Int} (x : Int) (h : V.length < 100) : pushF 100 F 1 x = F ∧ pushV 100 V 1 x = V ++ [x] := by simp [pushF, pushV, h]

set_option maxHeartbeats 25600000 in
theorem walk_DeadlineAssigns (a0 : Sl3) (a1 : Nat → Int) (w : World) (w0 : FitsS3 w a0) (w1 : Fits a1) :
    Calls Try.prog 6 #[.agg (cellsS3 a0), .agg (cellsOf a1)] w fun e w' => e = .returned (.bool true) ∧ Below w.heap.size w w' := by
  obtain ⟨⟨z0, u0⟩, ⟨z1, u1⟩, ⟨z2, u2⟩⟩ := w0
  obtain ⟨⟨p0, n0, c0⟩, ⟨p1, n1, c1⟩, ⟨p2, n2, c2⟩⟩ := a0
  obtain ⟨j0, hj0, hz0, hz1, hz2⟩ := u64_app
  have HK := Lib.hid (fun w => refCheck_any a1 w)
  have HV := Lib.hid alive_any
  have U0 := Lib.hid u0
  have U1 := Lib.hid u1
  have U2 := Lib.hid u2
  have ln0 : n0 ≤ 9223372036854775807 := u0.2.1
  have ln1 : n1 ≤ 9223372036854775807 := u1.2.1
  have ln2 : n2 ≤ 9223372036854775807 := u2.2.1
  clear u0 u1 u2
  have X0 : Hid (Blk ((w.alloc (.cells (cellsS3 ⟨⟨p0, n0, c0⟩, ⟨p1, n1, c1⟩, ⟨p2, n2, c2⟩⟩) 38)).alloc (.cells (cellsOf a1) 26)) w.heap.size 38 (cellsS3 ⟨⟨p0, n0, c0⟩, ⟨p1, n1, c1⟩, ⟨p2, n2, c2⟩⟩)) := Lib.hid ((Blk.new w _ _).alloc _)
  have C0 : Hid (Keeps w.heap.size (w.heap.size + 1) 26 (cellsOf a1) w ((w.alloc (.cells (cellsS3 ⟨⟨p0, n0, c0⟩, ⟨p1, n1, c1⟩, ⟨p2, n2, c2⟩⟩) 38)).alloc (.cells (cellsOf a1) 26))) := Lib.hid (by
    have := Keeps.new (t := 26) (cs := cellsOf a1) ((Below.refl w.heap.size w).alloc (Nat.le_refl _) (.cells (cellsS3 ⟨⟨p0, n0, c0⟩, ⟨p1, n1, c1⟩, ⟨p2, n2, c2⟩⟩) 38)) (by simp)
    rwa [show (w.alloc (.cells (cellsS3 ⟨⟨p0, n0, c0⟩, ⟨p1, n1, c1⟩, ⟨p2, n2, c2⟩⟩) 38)).heap.size = w.heap.size + 1 by simp] at this)
  have S0 : Hid (w.heap.size + 2 ≤ ((w.alloc (.cells (cellsS3 ⟨⟨p0, n0, c0⟩, ⟨p1, n1, c1⟩, ⟨p2, n2, c2⟩⟩) 38)).alloc (.cells (cellsOf a1) 26)).heap.size) := Lib.hid (by first | (simp; done) | (simp; omega))
  obtain ⟨wt, hwt⟩ : ∃ wt, (if 0 < n2 then z2.getD 0 0 else 0) = wt := ⟨_, rfl⟩
  have hw0 : 0 ≤ wt ∧ wt ≤ 65535 := by
    rw [← hwt]
    split
    · exact U2.out.2.2.1 0
    · exact ⟨by decide, by decide⟩
  have HWT := Lib.hid hwt
  clear hwt
  go_enter Try.func6, Try.ntmps6
  go_upto_region 1 with (fail)
  generalize ((w.alloc (.cells (cellsS3 ⟨⟨p0, n0, c0⟩, ⟨p1, n1, c1⟩, ⟨p2, n2, c2⟩⟩) 38)).alloc (.cells (cellsOf a1) 26)) = W at *
  have x0 : W.cell? ⟨w.heap.size, 0, none⟩ = some (.slice p0 n0 c0) := X0.out.cell 0
  have x1 : W.cell? ⟨w.heap.size, 1, none⟩ = some (.slice p1 n1 c1) := X0.out.cell 1
  go_cut [5, 6, 7] from 21 to 24 (fun s5 s6 s7 wx => s5 = .slice p0 n0 c0 ∧ s6 = .slice p1 n1 c1 ∧ s7 = .int .u16 0 ∧ ∃ nq, wx = W.drewN nq)
  case first =>
    go_quiet (fail)
    go_wp2_with fail
    go_meet
    case rel => exact ⟨rfl, rfl, rfl, _, rfl⟩
  case rest =>
    obtain ⟨rfl, rfl, rfl, nq, rfl⟩ := hcut
    clear x0 x1
    have X1 := Lib.hid (X0.out.drewN nq)
    have C1 : Hid (Keeps w.heap.size (w.heap.size + 1) 26 (cellsOf a1) w (W.drewN nq)) := Lib.hid ⟨C0.out.1.drewN nq, below_drewN C0.out.2.1 nq, C0.out.2.2⟩
    have S1 : Hid (w.heap.size + 2 ≤ (W.drewN nq).heap.size) := S0
    clear X0 C0 S0
    generalize W.drewN nq = W1 at *
    have x2 : W1.cell? ⟨w.heap.size, 2, none⟩ = some (.slice p2 n2 c2) := X1.out.cell 2
    go_upto_if 28 with (fail)
    go_cut [7] from 25 to 32 (fun s7 wx => s7 = .int .u16 wt ∧ wx = W1)
    case first =>
      by_cases h2 : 0 < n2
      · obtain ⟨b, off, e, hb, hcl⟩ := U2.out.2.2.2 h2
        have e : p2 = some ⟨b, off, none⟩ := e
        subst e
        have hwt2 : z2.getD 0 0 = wt := by rw [← HWT.out, if_pos h2]
        have xc : W1.cell? ⟨b, off + 0, none⟩ = some (.int .u16 wt) := (C1.out.2.1.cell (p := ⟨b, off + 0, none⟩) hb).trans (by rw [← hwt2]; exact hcl 0 h2)
        have xc2 : W1.cell? ⟨b, off, none⟩ = some (.int .u16 wt) := xc
        have hd : decide (0 < n2) = true := by simpa using h2
        go_wp2_with fail
        go_meet
        case rel => exact ⟨rfl, rfl⟩
      · obtain rfl : n2 = 0 := by omega
        have hwt2 : wt = 0 := by rw [← HWT.out, if_neg h2]
        subst hwt2
        go_wp2_with fail
        go_meet
        case rel => exact ⟨rfl, rfl⟩
    case rest =>
      obtain ⟨rfl, rfl⟩ := hcut
      clear x2 X1 U2 HWT
      by_cases hc : chk a1 = 0
      · have G := good_of_chk w1 hc
        rw [hc] at HK
        by_cases hn0 : n0 ≤ 20
        · by_cases hn1 : n1 ≤ 20
          · by_cases hc7 : 16 ≤ a1 7
            · by_cases hc9 : a1 9 ≤ 10000
              · have R0 := G.fcp0
                have Rm := G.chu1
                clear w1 hc
                have d0 : decide ((20 : Int) < (n0 : Int)) = false := decide_eq_false (by omega)
                have d1 : decide ((20 : Int) < (n1 : Int)) = false := decide_eq_false (by omega)
                have d7 : decide (a1 7 < 16) = false := decide_eq_false (by omega)
                have d9 : decide (10000 < a1 9) = false := decide_eq_false (by omega)
                go_wp2_with (first | (refine wpList_load_rowG rfl 26 _ rfl (w.heap.size + 1) rfl 26 _ (0, 0) _ C1.out.1 Try.underlying26 rfl info24 ?_))
                refine (HK.out _).mono ?_
                rintro o w2 ⟨rfl, b2⟩
                have C2 := Lib.hid (C1.out.next b2)
                have S2 : Hid (w.heap.size + 2 ≤ w2.heap.size) := Lib.hid (Nat.le_trans S1.out b2.size)
                clear C1 S1 b2 HK
                have x7 : w2.cell? ⟨w.heap.size + 1, 7, none⟩ = some (.int .u64 (a1 7)) := C2.out.1.cell 7
                have x9 : w2.cell? ⟨w.heap.size + 1, 9, none⟩ = some (.int .u64 (a1 9)) := C2.out.1.cell 9
                go_upto_region 9 with (fail)
                clear x7 x9 d0 d1 d7 d9
                have A0 := Lib.hid (As.new (c := a1) (W := w2) C2.out.1 C2.out.2.1 S2.out)
                clear C2
                generalize ((w2.alloc (.cells #[.slice none 0 0, .slice none 0 0, .int .i64 100] 43)).alloc (.cells #[.int .u64 0, .int .u64 0, .int .u64 0, .int .u64 0, .int .u64 0] 46)) = w3 at *
                generalize w2.heap.size = d at *
                go_wp2_with fail
                go_loopw [10, 11, 63] (fun s10 s11 s63 wr => ∃ (k : Nat) (a : Option Addr) (cp : Nat) (L F V : List Int) (R : Int), k ≤ n0 ∧ s63 = .int .i64 k ∧ s10 = .slice a k cp ∧ s11 = .int .u64 R ∧ 0 ≤ R ∧ R ≤ 255 * k ∧ Hid (L.length = k ∧ Low L ∧ Pl L F V R) ∧ Hid (As w wr a1 d (.slice a k cp) L F V 0)) (fun _ _ s63 _ => n0 - (intOf s63).toNat)
                case atStart => exact ⟨0, none, 0, [], [], [], 0, by omega, rfl, rfl, rfl, by omega, by omega, Lib.hid ⟨rfl, Low.nil, Pl.nil⟩, A0⟩
                case round =>
                  clear A0
                  obtain ⟨k, a, cp, L, F, V, R, hk, rfl, rfl, rfl, hR0, hR1, HP, HA⟩ := hrel
                  by_cases hlt : k < n0
                  · obtain ⟨rb, ro, e, hrb, hrc⟩ := U0.out.2.2.2 (by show 0 < n0; omega)
                    have e : p0 = some ⟨rb, ro, none⟩ := e
                    subst e
                    have hcell : wr.cell? ⟨rb, ro + k, none⟩ = some (.int .u16 (z0.getD k 0)) := (HA.out.be.cell (p := ⟨rb, ro + k, none⟩) hrb).trans (hrc k hlt)
                    obtain ⟨y0, y1⟩ := U0.out.2.2.1 k
                    clear hrc
                    generalize z0.getD k 0 = x at *
                    obtain ⟨y, hy⟩ : ∃ y, x % 256 = y := ⟨_, rfl⟩
                    have hy0 : 0 ≤ y ∧ y ≤ 255 := by omega
                    have hk100 : F.length < 100 ∧ V.length < 100 := by have := HP.out.2.2.len; have := HP.out.1; omega
                    have HO := Lib.hid (HA.out.ws.alloc (.cells #[.int .u64 y] 22))
                    rw [HP.out.1] at HO
                    have HSZ : Hid (d + 2 ≤ wr.heap.size) := Lib.hid HA.out.size
                    have HS1 := Lib.hid (src_amt wr y)
                    go_wp2_with (at_builtin; refine wpList_append_src _ rfl (.tmp 68) (.tmp 72) 47 rfl (d + 2) 22 j0 (.int .u64 0) 1 8 Try.underlying47 hj0 hz0 hz1 hz2 rfl (by decide) (.slice a k cp) k (L.map (Value.int .u64)) rfl HO.out (some ⟨wr.heap.size, 0, none⟩) 1 1 [.int .u64 y] rfl rfl HS1.out.1 HS1.out.2 (by unfold maxLen; omega) (by omega) (by have := HSZ.out; simp; omega) ?_)
                    intro v' w4 ho4 hg4 ha4
                    have hp4 := HA.out.app1 HP.out.1 ho4 hg4 (by simpa using ha4)
                    obtain ⟨a4, c4, rfl⟩ := owns_slice ho4
                    have A4 := Lib.hid hp4
                    have L4 : Hid ((L ++ [y]).length = k + 1 ∧ Low (L ++ [y])) := Lib.hid ⟨by simp [HP.out.1], HP.out.2.1.snoc hy0.1 hy0.2⟩
                    clear ho4 hg4 ha4 hp4 HO HSZ HS1 HA hcell
                    rcases Nat.mod_two_eq_zero_or_one k with hpar | hpar
                    · have hkm : (k : Int) % 2 = 0 := by omega
                      have H5 := A4.out.push 0 (k : Int)
                      rw [(pushes0 (V := V) (k : Int) hk100.1).1, (pushes0 (F := F) (V := V) (k : Int) hk100.1).2] at H5
                      have P5 := Lib.hid (HP.out.2.2.push0 y)
                      rw [HP.out.1] at P5
                      have H5 := Lib.hid H5
                      clear A4 HP
                      go_wp2_with fail
                      refine H5.out.mono ?_
                      rintro e w5 ⟨rfl, A5⟩
                      have A5 := Lib.hid A5
                      clear H5
                      go_wp2_with fail
                      go_roundw
                      case rel => exact ⟨k + 1, a4, c4, L ++ [y], F ++ [(k : Int)], V, R + y, by omega, by go_num, rfl, rfl, by omega, by omega, Lib.hid ⟨L4.out.1, L4.out.2, P5.out⟩, A5⟩
                      case measure => simp [intOf]; omega
                    · have hkm : (k : Int) % 2 = 1 := by omega
                      have H5 := A4.out.push 1 (k : Int)
                      rw [(pushes1 (F := F) (k : Int) hk100.2).1, (pushes1 (F := F) (V := V) (k : Int) hk100.2).2] at H5
                      have P5 := Lib.hid (HP.out.2.2.push1 y)
                      rw [HP.out.1] at P5
                      have H5 := Lib.hid H5
                      clear A4 HP
                      go_wp2_with fail
                      refine H5.out.mono ?_
                      rintro e w5 ⟨rfl, A5⟩
                      have A5 := Lib.hid A5
                      clear H5
                      go_wp2_with fail
                      go_roundw
                      case rel => exact ⟨k + 1, a4, c4, L ++ [y], F, V ++ [(k : Int)], R + y, by omega, by go_num, rfl, rfl, by omega, by omega, Lib.hid ⟨L4.out.1, L4.out.2, P5.out⟩, A5⟩
                      case measure => simp [intOf]; omega
                  · obtain rfl : k = n0 := by omega
                    clear hlt
                    have hlt : ¬ k < k := by omega
                    obtain ⟨yw, hyw⟩ : ∃ yw, wt % 256 = yw := ⟨_, rfl⟩
                    have hyw0 : 0 ≤ yw ∧ yw ≤ 255 := by omega
                    have hk100 : F.length < 100 ∧ V.length < 100 := by have := HP.out.2.2.len; have := HP.out.1; omega
                    have HO := Lib.hid (HA.out.ws.alloc (.cells #[.int .u64 yw] 22))
                    rw [HP.out.1] at HO
                    have HSZ : Hid (d + 2 ≤ wr.heap.size) := Lib.hid HA.out.size
                    have HS1 := Lib.hid (src_amt wr yw)
                    obtain ⟨K, k1, k2, hKe, hKc⟩ := exit_last G (R := R) (y := yw) hR0 (by omega) hyw0.1 hyw0.2 hc9
                    have HX := Lib.hid (fun w => exit_calls G hR0 (show R ≤ 5100 by omega) hyw0.1 hyw0.2 hKe w)
                    clear U0 hKe
                    go_wp2_with (at_builtin; refine wpList_append_src _ rfl (.tmp 87) (.tmp 91) 47 rfl (d + 2) 22 j0 (.int .u64 0) 1 8 Try.underlying47 hj0 hz0 hz1 hz2 rfl (by decide) (.slice a k cp) k (L.map (Value.int .u64)) rfl HO.out (some ⟨wr.heap.size, 0, none⟩) 1 1 [.int .u64 yw] rfl rfl HS1.out.1 HS1.out.2 (by unfold maxLen; omega) (by omega) (by have := HSZ.out; simp; omega) ?_)
                    intro v' w4 ho4 hg4 ha4
                    have hp4 := HA.out.app1 HP.out.1 ho4 hg4 (by simpa using ha4)
                    obtain ⟨a4, c4, rfl⟩ := owns_slice ho4
                    have A4 := Lib.hid hp4
                    have L4 : Hid ((L ++ [yw]).length = k + 1 ∧ Low (L ++ [yw])) := Lib.hid ⟨by simp [HP.out.1], HP.out.2.1.snoc hyw0.1 hyw0.2⟩
                    clear ho4 hg4 ha4 hp4 HO HSZ HS1 HA
                    have H5 := A4.out.push 1 (k : Int)
                    rw [(pushes1 (F := F) (k : Int) hk100.2).1, (pushes1 (F := F) (V := V) (k : Int) hk100.2).2] at H5
                    have P5 := Lib.hid (HP.out.2.2.push1 yw)
                    rw [HP.out.1] at P5
                    have H5 := Lib.hid H5
                    clear A4 HP
                    go_wp2_with fail
                    refine H5.out.mono ?_
                    rintro e w5 ⟨rfl, A5⟩
                    have A5 := Lib.hid A5
                    clear H5
                    go_wp2_with (first | (refine wpList_load_rowG rfl 26 _ rfl (w.heap.size + 1) rfl 26 _ (0, 0) _ A5.out.cb Try.underlying26 rfl info24 ?_))
                    refine (HX.out _).mono ?_
                    rintro e w6 ⟨rfl, b6⟩
                    have A6 := Lib.hid (A5.out.below b6)
                    clear A5 b6 HX
                    have O6 : Hid ((k : Int) ∈ V ++ [(k : Int)]) := Lib.hid (by simp)
                    generalize V ++ [(k : Int)] = V6 at *
                    generalize L ++ [yw] = L6 at *
                    obtain ⟨R1, hR1e⟩ : ∃ R1, R + yw = R1 := ⟨_, rfl⟩
                    rw [hR1e] at P5 hKc
                    have g7 : 0 ≤ a1 7 ∧ a1 7 ≤ 1152921504606846976 := ⟨by omega, Rm⟩
                    go_wp2_with fail
                    go_loopw [10, 12, 18] (fun s10 s12 s18 wr => ∃ (e n : Nat) (a : Option Addr) (cp : Nat) (fo : Int) (L F V : List Int) (B Q : Int), s10 = .slice a n cp ∧ s12 = .int .u64 fo ∧ s18 = .int .i64 e ∧ 1 ≤ e ∧ (e : Int) ≤ K + 1 ∧ n ≤ k + e ∧ n ≤ k + 1 + n1 ∧ 0 ≤ fo ∧ fo ≤ a1 9 ∧ Hid (L.length = n ∧ Low L ∧ Pl L F V Q ∧ (k : Int) ∈ V ∧ 0 ≤ B ∧ B ≤ 255 ∧ Q - B = R1 + fo - ((e : Int) - 1) * a1 7 ∧ (e = 1 ∨ B < Q)) ∧ Hid (As w wr a1 d (.slice a n cp) L F V B)) (fun _ _ s18 _ => (K + 2).toNat - (intOf s18).toNat)
                    case atStart => exact ⟨1, k + 1, a4, c4, 0, L6, F, V6, 0, R1, rfl, rfl, rfl, by omega, by omega, by omega, by omega, by omega, by omega, Lib.hid ⟨L4.out.1, L4.out.2, P5.out, O6.out, by omega, by omega, by simp, .inl rfl⟩, A6⟩
                    case round =>
                      clear A6 O6 P5 L4
                      obtain ⟨e, n, a, cp, fo, L, F, V, B, Q, rfl, rfl, rfl, he1, heK, hn1, hn2, hf0, hf1, HP, HA⟩ := hrel
                      by_cases hel : (e : Int) < K + 1
                      · obtain ⟨i, hi⟩ : ∃ i : Nat, (e : Int) - 1 = (i : Int) := ⟨e - 1, by omega⟩
                        have hie : i + 1 = e := by omega
                        have x9 : wr.cell? ⟨w.heap.size + 1, 9, none⟩ = some (.int .u64 (a1 9)) := HA.out.cb.cell 9
                        obtain ⟨zx0, zx1⟩ := U1.out.2.2.1 i
                        obtain ⟨x, hx⟩ : ∃ x, z1.getD i 0 = x := ⟨_, rfl⟩
                        rw [hx] at zx0 zx1
                        have HXX := Lib.hid hx
                        clear hx
                        obtain ⟨y, hy⟩ : ∃ y, x % 256 = y := ⟨_, rfl⟩
                        have hy0 : 0 ≤ y ∧ y ≤ 255 := by omega
                        obtain ⟨bb, hbb⟩ : ∃ bb : Bool, decide (e ≤ n1 ∧ fo + y ≤ a1 9) = bb := ⟨_, rfl⟩
                        have HBB := Lib.hid hbb
                        have HLC : Hid (e ≤ n1 → ∃ rb ro, p1 = some ⟨rb, ro, none⟩ ∧ wr.cell? ⟨rb, ro + i, none⟩ = some (.int .u16 x) ∧ rb < w.heap.size) := Lib.hid (fun h => by
                          obtain ⟨rb, ro, e', hrb, hrc⟩ := U1.out.2.2.2 (by show 0 < n1; omega)
                          exact ⟨rb, ro, e', (HA.out.be.cell (p := ⟨rb, ro + i, none⟩) hrb).trans (by rw [← HXX.out]; exact hrc i (by show i < n1; omega)), hrb⟩)
                        clear hbb
                        go_upto_region 25 with (fail)
                        go_cut [129] from 107 to 176 (fun s129 wx => s129 = .bool bb ∧ ∃ nq, wx = wr.drewN nq)
                        case first =>
                          by_cases hen : e ≤ n1
                          · obtain ⟨rb, ro, e', hcell, _⟩ := HLC.out hen
                            subst e'
                            have d1 : decide ((e : Int) ≤ (n1 : Int)) = true := decide_eq_true (by omega)
                            by_cases hfo : fo + y ≤ a1 9
                            · have d2 : decide (fo + y ≤ a1 9) = true := decide_eq_true hfo
                              have hb2 : bb = true := by rw [← HBB.out]; exact decide_eq_true ⟨hen, hfo⟩
                              go_quiet (fail)
                              go_wp2_with fail
                              go_meet
                              case rel => exact ⟨by rw [hb2], _, rfl⟩
                            · have d2 : decide (fo + y ≤ a1 9) = false := decide_eq_false hfo
                              have hb2 : bb = false := by rw [← HBB.out]; exact decide_eq_false (fun h => hfo h.2)
                              go_quiet (fail)
                              go_wp2_with fail
                              go_meet
                              case rel => exact ⟨by rw [hb2], _, rfl⟩
                          · have d1 : decide ((e : Int) ≤ (n1 : Int)) = false := decide_eq_false (by omega)
                            have hb2 : bb = false := by rw [← HBB.out]; exact decide_eq_false (fun h => hen h.1)
                            go_quiet (fail)
                            go_wp2_with fail
                            go_meet
                            case rel => exact ⟨by rw [hb2], _, rfl⟩
                        case rest =>
                          obtain ⟨rfl, nq, rfl⟩ := hcut
                          have A7 : Hid (As w (wr.drewN nq) a1 d (.slice a n cp) L F V B) := Lib.hid (HA.out.below (below_drewN (Below.refl _ _) nq))
                          have HL7 : Hid (e ≤ n1 → ∃ rb ro, p1 = some ⟨rb, ro, none⟩ ∧ (wr.drewN nq).cell? ⟨rb, ro + i, none⟩ = some (.int .u16 x) ∧ rb < w.heap.size) := HLC
                          clear HA HLC x9
                          generalize wr.drewN nq = w7 at *
                          go_upto_if 129 with (fail)
                          go_cut [10, 12] from 107 to 176 (fun s10 s12 wx => ∃ (n' : Nat) (a' : Option Addr) (cp' : Nat) (fo' : Int) (L' F' V' : List Int) (Q' : Int), s10 = .slice a' n' cp' ∧ s12 = .int .u64 fo' ∧ n' ≤ k + e + 1 ∧ n' ≤ k + 1 + n1 ∧ 0 ≤ fo' ∧ fo' ≤ a1 9 ∧ Hid (L'.length = n' ∧ Low L' ∧ Pl L' F' V' Q' ∧ (k : Int) ∈ V' ∧ 0 ≤ B ∧ B ≤ 255 ∧ Q' - B = R1 + fo' - ((e : Int) - 1) * a1 7 ∧ (e = 1 ∨ B < Q')) ∧ Hid (As w wx a1 d (.slice a' n' cp') L' F' V' B))
                          case first =>
                            cases bb
                            · go_wp2_with fail
                              go_meet
                              case rel => exact ⟨n, a, cp, fo, L, F, V, Q, rfl, rfl, by omega, hn2, hf0, hf1, HP, A7⟩
                            · have hb3 : e ≤ n1 ∧ fo + y ≤ a1 9 := of_decide_eq_true HBB.out
                              obtain ⟨rb, ro, e', hcell, hrb⟩ := HL7.out hb3.1
                              subst e'
                              have HCL := Lib.hid hcell
                              have hk100 : F.length < 100 := by have := HP.out.2.2.1.len; have := HP.out.1; omega
                              have H8 := A7.out.push 0 (n : Int)
                              rw [(pushes0 (V := V) (n : Int) hk100).1, (pushes0 (F := F) (V := V) (n : Int) hk100).2] at H8
                              have H8 := Lib.hid (H8.mono (R' := fun e w' => e = .returned (.int .i64 (errP 100 F V 0)) ∧ As w w' a1 d (.slice a n cp) L (F ++ [(n : Int)]) V B ∧ w'.cell? ⟨rb, ro + i, none⟩ = some (.int .u16 x)) (fun e w' ⟨h1, h2⟩ => ⟨h1, h2, by
                                have c1 := A7.out.be.cell (p := ⟨rb, ro + i, none⟩) hrb
                                have c2 := h2.be.cell (p := ⟨rb, ro + i, none⟩) hrb
                                rw [c2, ← c1]
                                exact HCL.out⟩))
                              clear A7 HL7
                              go_wp2_with fail
                              refine H8.out.mono ?_
                              rintro o w8 ⟨rfl, A8, hcell8⟩
                              have A8 := Lib.hid A8
                              clear H8 hcell
                              have HO := Lib.hid (A8.out.ws.alloc (.cells #[.int .u64 y] 22))
                              rw [HP.out.1] at HO
                              have HSZ : Hid (d + 2 ≤ w8.heap.size) := Lib.hid A8.out.size
                              have HS1 := Lib.hid (src_amt w8 y)
                              go_wp2_with (at_builtin; refine wpList_append_src _ rfl (.tmp 143) (.tmp 151) 47 rfl (d + 2) 22 j0 (.int .u64 0) 1 8 Try.underlying47 hj0 hz0 hz1 hz2 rfl (by decide) (.slice a n cp) n (L.map (Value.int .u64)) rfl HO.out (some ⟨w8.heap.size, 0, none⟩) 1 1 [.int .u64 y] rfl rfl HS1.out.1 HS1.out.2 (by unfold maxLen; omega) (by omega) (by have := HSZ.out; simp; omega) ?_)
                              intro v' w9 ho9 hg9 ha9
                              have hp9 := A8.out.app1 HP.out.1 ho9 hg9 (by simpa using ha9)
                              obtain ⟨a9, c9, rfl⟩ := owns_slice ho9
                              have A9 := Lib.hid hp9
                              have P9 : Hid ((L ++ [y]).length = n + 1 ∧ Low (L ++ [y]) ∧ Pl (L ++ [y]) (F ++ [(n : Int)]) V (Q + y) ∧ (k : Int) ∈ V ∧ 0 ≤ B ∧ B ≤ 255 ∧ Q + y - B = R1 + (fo + y) - ((e : Int) - 1) * a1 7 ∧ (e = 1 ∨ B < Q + y)) := Lib.hid (by
                                obtain ⟨q1, q2, q3, q4, q5, q6, q7, q8⟩ := HP.out
                                have q9 := q3.push0 y
                                rw [q1] at q9
                                exact ⟨by simp [q1], q2.snoc hy0.1 hy0.2, q9, q4, q5, q6, by omega, q8.imp id (fun h => by omega)⟩)
                              clear ho9 hg9 ha9 hp9 HO HSZ HS1 A8 HP HCL
                              go_wp2_with fail
                              go_meet
                              case rel => exact ⟨n + 1, a9, c9, fo + y, L ++ [y], F ++ [(n : Int)], V, Q + y, rfl, rfl, by omega, by omega, by omega, hb3.2, P9, A9⟩
                          case rest =>
                            obtain ⟨n', a', cp', fo', L', F', V', Q', rfl, rfl, hm1, hm2, hg0, hg1, HP', A9⟩ := hcut
                            clear HP A7 HL7 HBB HXX
                            have x7 : wc.cell? ⟨w.heap.size + 1, 7, none⟩ = some (.int .u64 (a1 7)) := A9.out.cb.cell 7
                            have HS := Lib.hid (A9.out.step (ep := (e : Int)) (m := a1 7) HP'.out.1 (by omega) HP'.out.2.1.amts g7.1 (by omega) (by omega))
                            have HE : Hid ((∀ p ∈ (stp (wOf L') F' V' B (a1 7)).1, p.1 ≠ (k : Int)) → _) := Lib.hid (fun hno => round_end HP'.out.2.1 HP'.out.2.2.1 HP'.out.2.2.2.1 HP'.out.2.2.2.2.1 g7.1 (by have := HP'.out.2.2.2.2.2.1; omega) hno)
                            clear A9
                            have HLB : Hid ((stp (wOf L') F' V' B (a1 7)).1.length ≤ n') := Lib.hid (by
                              have h1 := asg_len (wOf L') F' V' (gr B (a1 7))
                              change (stp (wOf L') F' V' B (a1 7)).1.length + _ + _ = _ at h1
                              have h2 := HP'.out.2.2.1.len
                              have h3 := HP'.out.1
                              omega)
                            generalize stp (wOf L') F' V' B (a1 7) = r at *
                            go_wp2_with fail
                            refine HS.out.mono ?_
                            rintro o w10 ⟨a10, cp10, rfl, A10, T10⟩
                            have A10 := Lib.hid A10
                            have T10 := Lib.hid T10
                            clear HS x7
                            obtain ⟨out, F8, V8, E8⟩ := r
                            dsimp only at T10 A10 HE HLB
                            obtain ⟨q, hq⟩ : ∃ q, out.length = q := ⟨_, rfl⟩
                            have HQ := Lib.hid hq
                            have hqb : q ≤ 41 := by have := HLB.out; omega
                            clear HLB
                            rw [hq]
                            clear hq
                            generalize balOf (out, F8, V8, E8) = B8 at *
                            go_wp2_with fail
                            obtain ⟨wo, hwo⟩ : ∃ wo, wo = w10 := ⟨_, rfl⟩
                            subst hwo
                            go_loopw [161] (fun s161 wi => ∃ j : Nat, j ≤ q ∧ s161 = .int .i64 j ∧ Hid (Below wo.heap.size wo wi) ∧ Hid (∀ (i : Nat) (p : Int × Int), i < j → out[i]? = some p → p.1 ≠ (k : Int))) (fun s161 _ => q - (intOf s161).toNat)
                            case atStart => exact ⟨0, by omega, rfl, Lib.hid (Below.refl _ _), Lib.hid (fun i p hi => by omega)⟩
                            case round =>
                              obtain ⟨j, hj, rfl, HW, HN⟩ := hrel
                              by_cases hjq : j < q
                              · obtain ⟨⟨ix, cl⟩, hp⟩ : ∃ p, out[j]? = some p := ⟨_, List.getElem?_eq_getElem (by rw [HQ.out]; exact hjq)⟩
                                obtain ⟨ab, ao, hae, _, hab, hac⟩ := T10.out (by rw [HQ.out]; omega)
                                have hae : a10 = some ⟨ab, ao, none⟩ := hae
                                subst hae
                                have R1 : Hid (wr.rangeAt ab (ao + j * 3) (rowT ix cl ((e : Int) + 1))) := Lib.hid (fun n u hu => (HW.out.cell (p := ⟨ab, ao + j * 3 + n, none⟩) hab).trans (hac j _ hp n u hu))
                                have HPJ := Lib.hid hp
                                have HW8 : Hid (Below wo.heap.size wo (wr.alloc (.cells (cellsT ix cl ((e : Int) + 1)) 52))) := Lib.hid (HW.out.alloc HW.out.size _)
                                have HY : Hid (Blk (wr.alloc (.cells (cellsT ix cl ((e : Int) + 1)) 52)) wr.heap.size 52 (cellsT ix cl ((e : Int) + 1))) := Lib.hid (Blk.new _ _ _)
                                have y0 : (wr.alloc (.cells (cellsT ix cl ((e : Int) + 1)) 52)).cell? ⟨wr.heap.size, 0, none⟩ = some (.int .i64 ix) := HY.out.cell 0
                                clear hp hac HW
                                by_cases hown : ix = (k : Int)
                                · subst hown
                                  have dl : decide ((e : Int) + 1 ≤ K + 1) = true := decide_eq_true (by omega)
                                  have dl2 : decide ((e : Int) ≤ K) = true := decide_eq_true (by omega)
                                  clear HE HN HPJ
                                  go_wp2_with (first
                                    | (refine wpList_load_mid rfl 52 _ rfl ab (ao + j * 3) rfl (rowT (k : Int) cl ((e : Int) + 1)) _ R1.out Try.underlying52 rfl infoAd ?_)
                                    | (refine wpList_store_row rfl _ _ _ rfl wr.heap.size (cellsT (k : Int) cl ((e : Int) + 1)) rfl rfl 52 _ (heap_alloc_new wr _) infoAd rfl (cellsT_one _ _ _) ?_; rw [World.setRow_alloc_new]))
                                  refine (HV.out _).mono ?_
                                  rintro o w12 ⟨rfl, b12⟩
                                  have y2 : w12.cell? ⟨wr.heap.size, 2, none⟩ = some (.int .i64 ((e : Int) + 1)) := (HY.out.below b12 HY.out.lt).cell 2
                                  have HF : Hid (Below w.heap.size w w12) := Lib.hid (A10.out.be.trans ((HW8.out.trans (b12.mono HW8.out.size)).mono A10.out.be.size))
                                  clear b12 HW8 HY y0
                                  go_wp2_with fail
                                  try rw [Exit.noGoto_ret]
                                  go_ret
                                  exact ⟨rfl, HF.out⟩
                                · have dn : (ix == (k : Int)) = false := by simpa using hown
                                  have HN2 : Hid (∀ (i : Nat) (p : Int × Int), i < j + 1 → out[i]? = some p → p.1 ≠ (k : Int)) := Lib.hid (fun i p hi hp => by
                                    rcases Nat.lt_or_ge i j with h | h
                                    · exact HN.out i p h hp
                                    · obtain rfl : i = j := by omega
                                      have := HPJ.out.symm.trans hp
                                      injection this with this
                                      rw [← this]
                                      exact hown)
                                  clear HN HPJ HE
                                  go_wp2_with (first
                                    | (refine wpList_load_mid rfl 52 _ rfl ab (ao + j * 3) rfl (rowT ix cl ((e : Int) + 1)) _ R1.out Try.underlying52 rfl infoAd ?_)
                                    | (refine wpList_store_row rfl _ _ _ rfl wr.heap.size (cellsT ix cl ((e : Int) + 1)) rfl rfl 52 _ (heap_alloc_new wr _) infoAd rfl (cellsT_one _ _ _) ?_; rw [World.setRow_alloc_new]))
                                  go_roundw
                                  case rel => exact ⟨j + 1, by omega, by go_num, HW8, HN2⟩
                                  case measure => simp [intOf]; omega
                              · obtain rfl : j = q := by omega
                                clear hjq
                                have hjq : ¬ j < j := by omega
                                have A11 := Lib.hid (A10.out.below HW.out)
                                have P11 : Hid (∃ Q8, L'.length = n' ∧ Low L' ∧ Pl L' F8 V8 Q8 ∧ (k : Int) ∈ V8 ∧ 0 ≤ B8 ∧ B8 ≤ 255 ∧ Q8 - B8 = R1 + fo' - (((e + 1 : Nat) : Int) - 1) * a1 7 ∧ ((e + 1 : Nat) = 1 ∨ B8 < Q8)) := Lib.hid (by
                                  obtain ⟨v1, Q8, v2, v3, v4, v5, v6⟩ := HE.out (fun p hp => by
                                    obtain ⟨i, hi, rfl⟩ := List.getElem_of_mem hp
                                    exact HN.out i _ (by rw [HQ.out] at hi; exact hi) (List.getElem?_eq_getElem hi))
                                  obtain ⟨q1, q2, q3, q4, q5, q6, q7, q8⟩ := HP'.out
                                  have hmul : (((e + 1 : Nat) : Int) - 1) * a1 7 = ((e : Int) - 1) * a1 7 + a1 7 := by
                                    rw [show (((e + 1 : Nat) : Int) - 1) = ((e : Int) - 1) + 1 by omega, Int.add_mul, Int.one_mul]
                                  exact ⟨Q8, q1, q2, v2, v1, v4, v5, by rw [hmul]; omega, .inr v6⟩)
                                obtain ⟨Q8, hQ8⟩ := P11.out
                                have P12 := Lib.hid hQ8
                                clear HW HN HE A10 T10 HP' hQ8 P11 HQ
                                go_wp2_with fail
                                go_roundw
                                case rel => exact ⟨e + 1, n', a', cp', fo', L', F8, V8, B8, Q8, rfl, rfl, by go_num, by omega, by omega, by omega, hm2, hg0, hg1, P12, A11⟩
                                case measure => simp [intOf]; omega
                      · exfalso
                        obtain ⟨_, _, hpl, _, hB0, _, hQ, hlate⟩ := HP.out
                        have heq : (e : Int) - 1 = K := by omega
                        rw [heq] at hQ
                        rcases hlate with h | h <;> omega
              · have d0 : decide ((20 : Int) < (n0 : Int)) = false := decide_eq_false (by omega)
                have d1 : decide ((20 : Int) < (n1 : Int)) = false := decide_eq_false (by omega)
                have d7 : decide (a1 7 < 16) = false := decide_eq_false (by omega)
                have d9 : decide (10000 < a1 9) = true := decide_eq_true (by omega)
                clear U0 U1 G
                go_wp2_with (first | (refine wpList_load_rowG rfl 26 _ rfl (w.heap.size + 1) rfl 26 _ (0, 0) _ C1.out.1 Try.underlying26 rfl info24 ?_))
                refine (HK.out _).mono ?_
                rintro o w2 ⟨rfl, b2⟩
                have C2 := Lib.hid (C1.out.next b2)
                clear C1 b2 HK
                have x7 : w2.cell? ⟨w.heap.size + 1, 7, none⟩ = some (.int .u64 (a1 7)) := C2.out.1.cell 7
                have x9 : w2.cell? ⟨w.heap.size + 1, 9, none⟩ = some (.int .u64 (a1 9)) := C2.out.1.cell 9
                go_wp2_with (fail)
                refine (HV.out _).mono ?_
                rintro o w3 ⟨rfl, b3⟩
                have C3 := Lib.hid (C2.out.next b3)
                clear b3 x7 x9 HV
                go_wp2
                go_ret
                exact ⟨rfl, C3.out.2.1⟩
            · have d0 : decide ((20 : Int) < (n0 : Int)) = false := decide_eq_false (by omega)
              have d1 : decide ((20 : Int) < (n1 : Int)) = false := decide_eq_false (by omega)
              have d7 : decide (a1 7 < 16) = true := decide_eq_true (by omega)
              clear U0 U1 G
              go_wp2_with (first | (refine wpList_load_rowG rfl 26 _ rfl (w.heap.size + 1) rfl 26 _ (0, 0) _ C1.out.1 Try.underlying26 rfl info24 ?_))
              refine (HK.out _).mono ?_
              rintro o w2 ⟨rfl, b2⟩
              have C2 := Lib.hid (C1.out.next b2)
              clear C1 b2 HK
              have x7 : w2.cell? ⟨w.heap.size + 1, 7, none⟩ = some (.int .u64 (a1 7)) := C2.out.1.cell 7
              have x9 : w2.cell? ⟨w.heap.size + 1, 9, none⟩ = some (.int .u64 (a1 9)) := C2.out.1.cell 9
              go_wp2_with (fail)
              refine (HV.out _).mono ?_
              rintro o w3 ⟨rfl, b3⟩
              have C3 := Lib.hid (C2.out.next b3)
              clear b3 x7 x9 HV
              go_wp2
              go_ret
              exact ⟨rfl, C3.out.2.1⟩
          · have d0 : decide ((20 : Int) < (n0 : Int)) = false := decide_eq_false (by omega)
            have d1 : decide ((20 : Int) < (n1 : Int)) = true := decide_eq_true (by omega)
            clear U0 U1 G
            go_wp2_with (first | (refine wpList_load_rowG rfl 26 _ rfl (w.heap.size + 1) rfl 26 _ (0, 0) _ C1.out.1 Try.underlying26 rfl info24 ?_))
            refine (HK.out _).mono ?_
            rintro o w2 ⟨rfl, b2⟩
            have C2 := Lib.hid (C1.out.next b2)
            clear C1 b2 HK
            have x7 : w2.cell? ⟨w.heap.size + 1, 7, none⟩ = some (.int .u64 (a1 7)) := C2.out.1.cell 7
            have x9 : w2.cell? ⟨w.heap.size + 1, 9, none⟩ = some (.int .u64 (a1 9)) := C2.out.1.cell 9
            go_wp2_with (fail)
            refine (HV.out _).mono ?_
            rintro o w3 ⟨rfl, b3⟩
            have C3 := Lib.hid (C2.out.next b3)
            clear b3 x7 x9 HV
            go_wp2
            go_ret
            exact ⟨rfl, C3.out.2.1⟩
        · have d0 : decide ((20 : Int) < (n0 : Int)) = true := decide_eq_true (by omega)
          clear U0 U1 G
          go_wp2_with (first | (refine wpList_load_rowG rfl 26 _ rfl (w.heap.size + 1) rfl 26 _ (0, 0) _ C1.out.1 Try.underlying26 rfl info24 ?_))
          refine (HK.out _).mono ?_
          rintro o w2 ⟨rfl, b2⟩
          have C2 := Lib.hid (C1.out.next b2)
          clear C1 b2 HK
          have x7 : w2.cell? ⟨w.heap.size + 1, 7, none⟩ = some (.int .u64 (a1 7)) := C2.out.1.cell 7
          have x9 : w2.cell? ⟨w.heap.size + 1, 9, none⟩ = some (.int .u64 (a1 9)) := C2.out.1.cell 9
          go_wp2_with (fail)
          refine (HV.out _).mono ?_
          rintro o w3 ⟨rfl, b3⟩
          have C3 := Lib.hid (C2.out.next b3)
          clear b3 x7 x9 HV
          go_wp2
          go_ret
          exact ⟨rfl, C3.out.2.1⟩
      · have hn : (chk a1 != 0) = true := by simpa using hc
        generalize chk a1 = x at *
        clear w1 hc
        clear U0 U1
        go_wp2_with (first | (refine wpList_load_rowG rfl 26 _ rfl (w.heap.size + 1) rfl 26 _ (0, 0) _ C1.out.1 Try.underlying26 rfl info24 ?_))
        refine (HK.out _).mono ?_
        rintro o w2 ⟨rfl, b2⟩
        have C2 := Lib.hid (C1.out.next b2)
        clear C1 b2 HK
        have x7 : w2.cell? ⟨w.heap.size + 1, 7, none⟩ = some (.int .u64 (a1 7)) := C2.out.1.cell 7
        have x9 : w2.cell? ⟨w.heap.size + 1, 9, none⟩ = some (.int .u64 (a1 9)) := C2.out.1.cell 9
        go_wp2_with (fail)
        refine (HV.out _).mono ?_
        rintro o w3 ⟨rfl, b3⟩
        have C3 := Lib.hid (C2.out.next b3)
        clear b3 x7 x9 HV
        go_wp2
        go_ret
        exact ⟨rfl, C3.out.2.1⟩
end Go.Proofs.Ytjleklhajmhekaa
