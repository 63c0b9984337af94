/- Part 22 of 29: Pts En En2 Eg Mk Qs Go1 Go5 Md Con Beg End Asn Mer Bnd Tik App New Made Snap. -/
import Derived.Test.YtobgbcdgffgdhaaGreatZu10
import Derived.Test.YtobgbcdgffgdhaaGreatZu16
import Derived.Test.YtobgbcdgffgdhaaGreatZu21
namespace Go.Proofs.YtobgbcdgffgdhaaGreat
set_option linter.unusedVariables false
set_option linter.unusedSimpArgs false
section
open Go Go.RowKit
set_option maxRecDepth 100000
structure Pl where
 c : Nat
 l : Nat
 r : Nat
 u : Nat
 k : Nat
 m : Nat
 n : Nat
 p : Nat
def RingQ (R E k b size c : Nat) (F : List Value) : World → (Nat → Prop) → Prop := fun w S => ∃ go, RingAt R E k w b go size c F ∧ ∀ i, S i ↔ Foot b go i
def Pt (cf : Nat → Int) (a : Pl) (X : Nat → World → (Nat → Prop) → Prop) (s : Sg) (L : List Ent) : Nat → World → (Nat → Prop) → Prop
 | 0 => fun w S => ClockAt w a.c s.bk (cf 13) ∧ ∀ i, S i ↔ i = a.c
 | 1 => fun w S => LedAt w a.l s.D s.P s.B (cf 4) ∧ ∀ i, S i ↔ i = a.l
 | 2 => fun w S => Reg w a.r S (cf 0).toNat s.V
 | 3 => fun w S => Ring w a.u S (cf 12).toNat L
 | 4 => fun w S => Cur w a.k s.cu ∧ ∀ i, S i ↔ i = a.k
 | 5 => fun w S => (∃ Sp T D, MetAt w a.m s.cy Sp T D ∧ Fits_13 s.cy Sp T D) ∧ ∀ i, S i ↔ i = a.m
 | 6 => fun w S => Ln w a.n S (cf 1).toNat s.F s.W
 | 7 => RingQ 148 3 1 a.p (cf 1).toNat s.pd.length (s.pd.map (Value.int .i64))
 | k => X k
section
variable {cf : Nat → Int} {a : Pl} {X : Nat → World → (Nat → Prop) → Prop} {s : Sg} {L : List Ent}
theorem stays_ring {R E k b size c : Nat} {F : List Value} : Stays (RingQ R E k b size c F) := by
 refine ⟨fun w S h i hi => ?_, fun w w' S T h hk hT => ?_⟩
 ·obtain ⟨go, h1, h2⟩ := h
  exact h1.lt i ((h2 i).1 hi)
 ·obtain ⟨go, h1, h2⟩ := h
  exact ⟨go, h1.kept hk (fun i hi => hT i ((h2 i).2 hi)), h2⟩
theorem stays_part (hX : ∀ k, 8 ≤ k → Stays (X k)) : ∀ k, Stays (Pt cf a X s L k)
 | 0 => stays_blk
 | 1 => stays_blk
 | 2 => ⟨fun w S h i hi => h.lt i hi, fun w w' S T h hk hT => h.kept hk hT⟩
 | 3 => ⟨fun w S h i hi => h.lt i hi, fun w w' S T h hk hT => h.kept hk hT⟩
 | 4 => stays_blk
 | 5 => by
  refine ⟨fun w S h i hi => ?_, fun w w' S T h hk hT => ?_⟩
  ·obtain ⟨⟨Sp, T, D, h1, _⟩, h2⟩ := h
   rw [(h2 i).1 hi]; exact h1.lt
  ·obtain ⟨⟨Sp, T', D, h1, hf⟩, h2⟩ := h
   exact ⟨⟨Sp, T', D, h1.kept hk (hT _ ((h2 _).2 rfl)), hf⟩, h2⟩
 | 6 => ⟨fun w S h i hi => h.lt i hi, fun w w' S T h hk hT => h.kept hk hT⟩
 | 7 => stays_ring
 | k + 8 => hX (k + 8) (by omega)
end
end
section
open Go Go.RowKit
set_option maxRecDepth 100000
structure Org where
 T : Nat → Prop
 w : World
def Made (o : Org) (i : Nat) : Prop := o.T i ∨ o.w.heap.size ≤ i
def En (N : Nat) (w0 : Org) (w : World) (cf : Nat → Int) (a : Pl) (X : Nat → World → (Nat → Prop) → Prop) (s : Sg) (L : List Ent) : Prop :=
 ∃ Φ, Fam N (Pt cf a X s L) Φ w ∧ (∀ k, k < N → ∀ i, Φ k i → Made w0 i) ∧ Kept w0.T w0.w w
section
variable {N : Nat} {w0 : Org} {w w' : World} {cf : Nat → Int} {a : Pl} {X : Nat → World → (Nat → Prop) → Prop} {s s' : Sg} {L L' : List Ent}
theorem below_kept {T : Nat → Prop} (hb : Kept w0.T w0.w w) (hk : Kept T w w') (hT : ∀ i, T i → Made w0 i) : Kept w0.T w0.w w' := hb.trans hk fun i h1 h2 => (hT i h2).resolve_right (by omega)
theorem En.below (h : En N w0 w cf a X s L) (hX : ∀ k, 8 ≤ k → Stays (X k)) (hb : Below w.heap.size w w') : En N w0 w' cf a X s L := by
 obtain ⟨Φ, F, h1, h2⟩ := h
 exact ⟨Φ, F.below (fun j _ => stays_part hX j) hb, h1, h2.trans (Kept.of_below (S := fun _ => False) hb) (fun _ _ h => h.elim)⟩
theorem En.turn (h : En N w0 w cf a X s L) (hX : ∀ k, 8 ≤ k → Stays (X k)) {k : Nat} (hk : k < N) (hsame : ∀ j, j ≠ k → Pt cf a X s' L' j = Pt cf a X s L j)
  (hn : ∀ S, Pt cf a X s L k w S → ∃ S', Pt cf a X s' L' k w' S' ∧ (∀ i, S' i → S i ∨ w.heap.size ≤ i) ∧ Kept S w w') : En N w0 w' cf a X s' L' := by
 obtain ⟨Φ, F, h1, h2⟩ := h
 obtain ⟨S', p1, p2, p3⟩ := hn _ (F.part k hk)
 refine ⟨_, F.turn (fun j _ => stays_part hX j) hk (fun j _ hj => hsame j hj) (stays_part hX k) p1 p2 p3, fun j hj i hi => ?_, below_kept h2 p3 (h1 k hk)⟩
 by_cases hjk : j = k
 ·subst hjk
  rw [fput_same] at hi
  rcases p2 i hi with h3 | h3
  ·exact h1 j hj i h3
  ·exact .inr (Nat.le_trans h2.size h3)
 ·rw [fput_other hjk] at hi
  exact h1 j hj i hi
theorem En.part (h : En N w0 w cf a X s L) {k : Nat} (hk : k < N) : ∃ S, Pt cf a X s L k w S ∧ ∀ i, S i → Made w0 i := by
 obtain ⟨Φ, F, h1, _⟩ := h
 exact ⟨Φ k, F.part k hk, h1 k hk⟩
theorem en_new {Φ : Nat → Nat → Prop} {S' : Nat → Prop} (g1 : ∀ k, k < N → ∀ i, Φ k i → Made w0 i) (g2 : Kept w0.T w0.w w) {k : Nat} (hk : k < N) (hS : ∀ i, S' i → Φ k i ∨ w.heap.size ≤ i) : ∀ j, j < N → ∀ i, fput Φ k S' j i → Made w0 i := fun j hj i hi => by
 by_cases hjk : j = k
 ·subst hjk
  rw [fput_same] at hi
  rcases hS i hi with h | h
  ·exact g1 j hj i h
  ·exact .inr (Nat.le_trans g2.size h)
 ·rw [fput_other hjk] at hi
  exact g1 j hj i hi
theorem kept_one {b : Nat} {S : Nat → Prop} (hg : w.grownBy w' (some b)) (hS : ∀ i, S i ↔ i = b) : Kept S w w' := Kept.of_grown hg (fun i hi => (hS i).2 (Option.some.inj hi))
theorem En.block (h : En N w0 w cf a X s L) (hN : 8 ≤ N) : CallW 91 #[.pointer (some ⟨a.c, 0, none⟩)] w (.int .i64 s.bk) := by
 obtain ⟨S, hp, _⟩ := h.part (show 0 < N by omega)
 exact block_any a.c s.bk (cf 13) w hp.1
theorem En.epoch (h : En N w0 w cf a X s L) (hN : 8 ≤ N) (h0 : 0 ≤ s.bk) (h1 : s.bk ≤ 9223372036854775807) (hL : 1 ≤ cf 13) (he : s.ep = s.bk / cf 13) :
  CallD 92 #[.pointer (some ⟨a.c, 0, none⟩)] w (.int .i64 s.ep) := by
 obtain ⟨S, hp, _⟩ := h.part (show 0 < N by omega)
 have := epoch_any a.c s.bk (cf 13) w h1 hp.1
 rw [epochOf_yes h0 hL, ← he] at this
 exact this
theorem En.pay (h : En N w0 w cf a X s L) (hX : ∀ k, 8 ≤ k → Stays (X k)) (hN : 8 ≤ N) (hF : Fits_06 s.D s.P s.B (cf 4)) {x : Int} (x0 : 0 ≤ x) (hx : x ≤ s.D - s.P - s.B) :
  Calls Tryz.prog 247 #[.pointer (some ⟨a.l, 0, none⟩), .int .u64 x] w fun e w' => e = .returned (.int .i64 0) ∧ En N w0 w' cf a X { s with P := s.P + x } L := by
 obtain ⟨S, hp, _⟩ := h.part (show 1 < N by omega)
 refine (pay_yes a.l s.D s.P s.B (cf 4) x w hp.1 hF x0 hx).mono ?_
 rintro e w' ⟨rfl, h2, h3⟩
 refine ⟨rfl, h.turn hX (show 1 < N by omega) (fun j hj => ?_) fun S hS => ⟨S, ⟨h2, hS.2⟩, fun i hi => .inl hi, kept_one h3 hS.2⟩⟩
 rcases j with _ | _ | _ | _ | _ | _ | _ | _ | j <;> first | rfl | exact absurd rfl hj
theorem En.set (h : En N w0 w cf a X s L) (hX : ∀ k, 8 ≤ k → Stays (X k)) (hN : 8 ≤ N) {n : Nat} {v v' : Val} (hv : s.V[n]? = some v) (hf : FitsV v') (ht : totalOf s.V - v.bal + v'.bal ≤ 18446744073709551615) :
  Calls Tryz.prog 175 #[.pointer (some ⟨a.r, 0, none⟩), .int .i64 (n : Int), .agg (cellsV v')] w fun e w' => e = .returned (.int .i64 0) ∧ En N w0 w' cf a X { s with V := s.V.set n v' } L := by
 obtain ⟨S0, hp0, _⟩ := h.part (show 2 < N by omega)
 obtain ⟨Φ, F, g1, g2⟩ := h
 have hp := F.part 2 (show 2 < N by omega)
 refine (setv_any a.r (cf 0).toNat (Φ 2) n s.V v' w hp hf).mono ?_
 rintro e w' (⟨h1, _⟩ | ⟨k, old, h1, h2, h3⟩)
 ·have := (List.getElem?_eq_some_iff.1 hv).1; omega
 ·obtain rfl : n = k := by omega
  rw [hv] at h2
  obtain rfl := Option.some.inj h2
  rcases h3 with ⟨_, rfl, h4, h5⟩ | ⟨h3, _⟩
  ·refine ⟨rfl, fput Φ 2 (Φ 2), F.turn (fun j _ => stays_part hX j) (show 2 < N by omega) (fun j _ hj => ?_) (stays_part hX 2) h4 (fun i hi => .inl hi) h5, fun j hj i hi => ?_, below_kept g2 h5 (g1 2 (by omega))⟩
   ·rcases j with _ | _ | _ | _ | _ | _ | _ | _ | j <;> first | rfl | exact absurd rfl hj
   ·by_cases hj2 : j = 2
    ·subst hj2; rw [fput_same] at hi; exact g1 2 hj i hi
    ·rw [fput_other hj2] at hi; exact g1 j hj i hi
  ·omega
theorem En.add (h : En N w0 w cf a X s L) (hX : ∀ k, 8 ≤ k → Stays (X k)) (hN : 8 ≤ N) {v : Val} (hf : FitsV v) (hl : (s.V.length : Int) < cf 0) (ht : totalOf s.V + v.bal ≤ 18446744073709551615) :
  Calls Tryz.prog 169 #[.pointer (some ⟨a.r, 0, none⟩), .agg (cellsV v)] w fun e w' => e = .returned (.tuple #[.int .i64 s.V.length, .int .i64 0]) ∧ En N w0 w' cf a X { s with V := s.V ++ [v] } L := by
 obtain ⟨Φ, F, g1, g2⟩ := h
 refine (addv_any a.r (cf 0).toNat (Φ 2) s.V v w (F.part 2 (show 2 < N by omega)) hf).mono ?_
 rintro e w' (⟨h1, _⟩ | ⟨_, h1, _⟩ | ⟨_, _, rfl, S', h3, h4, h5⟩)
 ·omega
 ·omega
 ·refine ⟨rfl, fput Φ 2 S', F.turn (fun j _ => stays_part hX j) (show 2 < N by omega) (fun j _ hj => ?_) (stays_part hX 2) h3 h4 h5, en_new g1 g2 (show 2 < N by omega) h4, below_kept g2 h5 (g1 2 (by omega))⟩
  rcases j with _ | _ | _ | _ | _ | _ | _ | _ | j <;> first | rfl | exact absurd rfl hj
def RowP (e : TypeId) (k : Nat) (v : Value) (n : Nat) (xs : List Value) : World → (Nat → Prop) → Prop := fun w S => w.ownsRow 0 e k v n xs ∧ ∀ i, S i ↔ v.ownBlock = some i
theorem owns_lt {base n k : Nat} {e : TypeId} {v : Value} {xs : List Value} (h : w.ownsRow base e k v n xs) : ∀ i, v.ownBlock = some i → base ≤ i ∧ i < w.heap.size := by
 rcases h.2 with ⟨rfl, h2⟩ | ⟨g, cp, cur, rfl, h1, h3, h4, h5, h6, h7⟩
 ·intro i hi; simp [Value.ownBlock] at hi
 ·intro i hi
  obtain rfl : g = i := Option.some.inj hi
  exact ⟨h1, (Array.getElem?_eq_some_iff.1 h3).1⟩
theorem stays_row {e : TypeId} {k n : Nat} {v : Value} {xs : List Value} : Stays (RowP e k v n xs) :=
 ⟨fun w S h i hi => (owns_lt h.1 i ((h.2 i).1 hi)).2, fun w w' S T h hk hT => ⟨owns_kept h.1 hk (fun g hg => hT g ((h.2 g).2 hg)), h.2⟩⟩
def BlkP (g t : Nat) (cs : Array Value) : World → (Nat → Prop) → Prop := fun w S => Blk w g t cs ∧ ∀ i, S i ↔ i = g
theorem stays_block {g t : Nat} {cs : Array Value} : Stays (BlkP g t cs) := stays_blk
def xput (X : Nat → World → (Nat → Prop) → Prop) (N : Nat) (Q : World → (Nat → Prop) → Prop) : Nat → World → (Nat → Prop) → Prop := fun k => if k = N then Q else X k
theorem xput_same {Q : World → (Nat → Prop) → Prop} : xput X N Q N = Q := if_pos rfl
theorem xput_stays {Q : World → (Nat → Prop) → Prop} (hX : ∀ k, 8 ≤ k → Stays (X k)) (hQ : Stays Q) : ∀ k, 8 ≤ k → Stays (xput X N Q k) := fun k hk => by
 unfold xput; split
 ·exact hQ
 ·exact hX k hk
theorem pt_high {k : Nat} (hk : 8 ≤ k) : Pt cf a X s L k = X k := by
 obtain ⟨j, rfl⟩ : ∃ j, k = j + 8 := ⟨k - 8, by omega⟩
 rfl
theorem pt_xput {Q : World → (Nat → Prop) → Prop} (hN : 8 ≤ N) : ∀ j, j < N → Pt cf a (xput X N Q) s L j = Pt cf a X s L j := fun j hj => by
 rcases Nat.lt_or_ge j 8 with h | h
 ·rcases j with _ | _ | _ | _ | _ | _ | _ | _ | j <;> first | rfl | omega
 ·rw [pt_high h, pt_high h]
  exact if_neg (by omega)
theorem En.more (h : En N w0 w cf a X s L) (hX : ∀ k, 8 ≤ k → Stays (X k)) (hN : 8 ≤ N) {Q : World → (Nat → Prop) → Prop} (hQ : Stays Q) {S' : Nat → Prop} (hq : Q w' S') (hS : ∀ i, S' i → w.heap.size ≤ i) (hb : Below w.heap.size w w') : En (N + 1) w0 w' cf a (xput X N Q) s L := by
 obtain ⟨Φ, F, g1, g2⟩ := h
 have hq' : Pt cf a (xput X N Q) s L N w' S' := by rw [pt_high hN, xput_same]; exact hq
 refine ⟨fput Φ N S', F.more (P' := Pt cf a (xput X N Q) s L) (fun j _ => stays_part hX j) (stays_part (xput_stays hX hQ) N) (pt_xput hN) hq' hS hb, fun j hj i hi => ?_, g2.trans (Kept.of_below (S := fun _ => False) hb) (fun _ _ h => h.elim)⟩
 by_cases hjN : j = N
 ·subst hjN; rw [fput_same] at hi; exact .inr (Nat.le_trans g2.size (hS i hi))
 ·rw [fput_other hjN] at hi; exact g1 j (by omega) i hi
theorem En.less (h : En (N + 1) w0 w cf a X s L) : En N w0 w cf a X s L := by
 obtain ⟨Φ, F, g1, g2⟩ := h
 exact ⟨Φ, F.less fun _ _ => rfl, fun k hk => g1 k (by omega), g2⟩
theorem fam_row {Φ : Nat → Nat → Prop} {S' : Nat → Prop} {k : Nat} {e : TypeId} {kk n : Nat} {v : Value} {xs : List Value} (hlt : ∀ j, j < N → ∀ i, Φ j i → i < w.heap.size)
  (ho : w'.ownsRow w.heap.size e kk v n xs) (hd : ∀ i, S' i → i < w.heap.size ∨ v.ownBlock ≠ some i) : ∀ j, j < N → ∀ i, fput Φ k S' j i → ¬ v.ownBlock = some i := fun j hj i hi hv => by
 have := (owns_lt ho i hv).1
 by_cases hjk : j = k
 ·subst hjk
  rw [fput_same] at hi
  rcases hd i hi with h1 | h1
  ·omega
  ·exact h1 hv
 ·rw [fput_other hjk] at hi
  have := hlt j hj i hi
  omega
theorem row_zero {e : TypeId} {base k n : Nat} {v : Value} {xs : List Value} (h : w.ownsRow base e k v n xs) : RowP e k v n xs w (fun i => v.ownBlock = some i) := ⟨owns_base h (Nat.zero_le _), fun i => Iff.rfl⟩
theorem En.row (h : En N w0 w cf a X s L) {r : Nat} (h8 : 8 ≤ r) (hr : r < N) {e : TypeId} {kk n : Nat} {v : Value} {xs : List Value} (hx : X r = RowP e kk v n xs) : w.ownsRow 0 e kk v n xs := by
 obtain ⟨S, hp, _⟩ := h.part hr
 rw [pt_high h8, hx] at hp
 exact hp.1
theorem En.all (h : En N w0 w cf a X s L) (hX : ∀ k, 8 ≤ k → Stays (X k)) (hN : 8 ≤ N) :
  Calls Tryz.prog 43 #[.pointer (some ⟨a.r, 0, none⟩)] w fun e w' => ∃ v, e = .returned v ∧ En (N + 1) w0 w' cf a (xput X N (RowP 68 7 v s.V.length (flat s.V))) s L ∧ Below w.heap.size w w' := by
 obtain ⟨S, hp, _⟩ := h.part (show 2 < N by omega)
 refine (all_any a.r (cf 0).toNat S s.V w hp).mono ?_
 rintro e w' ⟨v, rfl, h1, h2⟩
 exact ⟨v, rfl, h.more hX hN stays_row (row_zero h1) (fun i hi => (owns_lt h1 i hi).1) h2, h2⟩
theorem En.put (h : En N w0 w cf a X s L) (hX : ∀ k, 8 ≤ k → Stays (X k)) (hN : 8 ≤ N) {ep it : Int} (h0 : 0 ≤ ep) (h1 : ep ≤ 1099511627776) (hL : L.length ≤ 100000) :
  Calls Tryz.prog 185 #[.pointer (some ⟨a.u, 0, none⟩), .int .i64 ep, .int .i64 it] w fun e w' => e = .returned (.bool true) ∧ En N w0 w' cf a X s (L ++ [(ep, it)]) := by
 have h' := h
 obtain ⟨Φ, F, g1, g2⟩ := h
 refine (put_any_08 a.u (cf 12).toNat (Φ 3) L ep it w (F.part 3 (show 3 < N by omega)) h0 h1 hL).mono ?_
 rintro e w' ⟨rfl, S', h3, h4, h5⟩
 refine ⟨rfl, fput Φ 3 S', F.turn (fun j _ => stays_part hX j) (show 3 < N by omega) (fun j _ hj => ?_) (stays_part hX 3) h3 h4 h5, en_new g1 g2 (show 3 < N by omega) h4, below_kept g2 h5 (g1 3 (by omega))⟩
 rcases j with _ | _ | _ | _ | _ | _ | _ | _ | j <;> first | rfl | exact absurd rfl hj
theorem En.due (h : En N w0 w cf a X s L) (hX : ∀ k, 8 ≤ k → Stays (X k)) (hN : 8 ≤ N) {ep : Int} (h0 : 0 ≤ ep) (h1 : ep ≤ 1099511627776) (hL : L.length ≤ 100000) :
  Calls Tryz.prog 234 #[.pointer (some ⟨a.u, 0, none⟩), .int .i64 ep] w fun e w' => ∃ v, e = .returned v ∧ En (N + 1) w0 w' cf a (xput X N (RowP 3 1 v (goes ep L).length ((goes ep L).map (Value.int .i64)))) s (stay ep L) ∧ w.heap.size ≤ w'.heap.size := by
 obtain ⟨Φ, F, g1, g2⟩ := h
 refine (due_any a.u (cf 12).toNat (Φ 3) L ep w (F.part 3 (show 3 < N by omega)) h0 h1 hL).mono ?_
 rintro e w' ⟨v, S', rfl, ho, h3, h4, h5⟩
 have h4' : ∀ i, S' i → Φ 3 i ∨ w.heap.size ≤ i := fun i hi => .inl (h4 i hi)
 have F2 := F.turn (P' := Pt cf a X s (stay ep L)) (fun j _ => stays_part hX j) (show 3 < N by omega) (fun j _ hj => by rcases j with _ | _ | _ | _ | _ | _ | _ | _ | j <;> first | rfl | exact absurd rfl hj) (stays_part hX 3) h3 h4' h5
 have hq : Pt cf a (xput X N (RowP 3 1 v (goes ep L).length ((goes ep L).map (Value.int .i64)))) s (stay ep L) N w' (fun i => v.ownBlock = some i) := by rw [pt_high hN, xput_same]; exact row_zero ho
 have F3 := F2.put (pt_xput hN) hq (fun i hi => (owns_lt ho i hi).2) (fam_row F.lt ho fun i hi => .inl (F.lt 3 (by omega) i (h4 i hi)))
 refine ⟨v, rfl, ⟨_, F3, fun j hj i hi => ?_, below_kept g2 h5 (g1 3 (by omega))⟩, h5.size⟩
 by_cases hjN : j = N
 ·subst hjN; rw [fput_same] at hi; exact .inr (Nat.le_trans g2.size (owns_lt ho i hi).1)
 ·rw [fput_other hjN] at hi
  exact en_new g1 g2 (show 3 < N by omega) h4' j (by omega) i hi
theorem En.ulen (h : En N w0 w cf a X s L) (hX : ∀ k, 8 ≤ k → Stays (X k)) (hN : 8 ≤ N) (hL : L.length ≤ 100000) :
  Calls Tryz.prog 51 #[.pointer (some ⟨a.u, 0, none⟩)] w fun e w' => e = .returned (.int .i64 L.length) ∧ En N w0 w' cf a X s L ∧ Below w.heap.size w w' := by
 obtain ⟨S, hp, _⟩ := h.part (show 3 < N by omega)
 refine (len_any_08 a.u (cf 12).toNat S L w hp hL).mono ?_
 rintro e w' ⟨rfl, h2⟩
 exact ⟨rfl, h.below hX h2, h2⟩
theorem En.lall (h : En N w0 w cf a X s L) (hX : ∀ k, 8 ≤ k → Stays (X k)) (hN : 8 ≤ N) (cl : Int) :
  Calls Tryz.prog 46 #[.pointer (some ⟨a.n, 0, none⟩), .int .i64 cl] w fun e w' => ∃ v, e = .returned v ∧ En (N + 1) w0 w' cf a (xput X N (RowP 3 1 v (laneL s.F s.W cl).length ((laneL s.F s.W cl).map (Value.int .i64)))) s L ∧ Below w.heap.size w w' := by
 obtain ⟨S, hp, _⟩ := h.part (show 6 < N by omega)
 refine (all_any_12 cl hp).mono ?_
 rintro e w' ⟨v, rfl, h1, h2⟩
 exact ⟨v, rfl, h.more hX hN stays_row (row_zero h1) (fun i hi => (owns_lt h1 i hi).1) h2, h2⟩
theorem En.assign (h : En N w0 w cf a X s L) (hX : ∀ k, 8 ≤ k → Stays (X k)) (hN : 8 ≤ N) {r : Nat} (h8 : 8 ≤ r) (hr : r < N) {wv : Value} {U : List Int} {nu : Nat} {x ep : Int} (hx8 : X r = RowP 23 1 wv nu (U.map (Value.int .u64))) (hl : U.length ≤ 9223372036854775807) (hA : Amts U) (hx : 0 ≤ x) (he0 : 0 ≤ ep) (he1 : ep ≤ 1099511627776) :
  Calls Tryz.prog 235 #[.int .i64 ep, .pointer (some ⟨a.n, 0, none⟩), .pointer (some ⟨a.m, 0, none⟩), .int .u64 x, wv] w fun e w' => ∃ v, e = .returned v ∧
   En (N + 1) w0 w' cf a (xput X N (RowP 280 3 v (stp (wOf U) s.F s.W s.cy x).1.length (rowA (ep + 1) (stp (wOf U) s.F s.W s.cy x).1))) { s with F := (stp (wOf U) s.F s.W s.cy x).2.1, W := (stp (wOf U) s.F s.W s.cy x).2.2.1, cy := balOf (stp (wOf U) s.F s.W s.cy x) } L ∧ w.heap.size ≤ w'.heap.size := by
 obtain ⟨Φ, F, g1, g2⟩ := h
 obtain ⟨⟨Sp, T, D, hm, hf⟩, hS5⟩ := F.part 5 (show 5 < N by omega)
 have hap := F.ap 6 5 (by omega) (by omega) (by omega)
 have hn6 : ¬ Φ 6 a.m := fun hi => hap a.m hi ((hS5 a.m).2 rfl)
 have hrow := F.part r hr
 rw [pt_high h8, hx8] at hrow
 obtain ⟨wa, cap, rfl, hlen, hcap, hu⟩ := amts_of_owns (S := fun i => i = a.m ∨ Φ 6 i) hrow.1 (fun i hi h => by
  have h1 := (hrow.2 i).2 hi
  rcases h with rfl | h
  ·exact F.ap r 5 hr (by omega) (by omega) _ h1 ((hS5 _).2 rfl)
  ·exact F.ap r 6 hr (by omega) (by omega) i h1 h)
 subst hlen
 refine (step_any (F.part 6 (show 6 < N by omega)) hm hf hn6 hu hl hA hx he0 he1).mono ?_
 rintro e w' ⟨v, cp, rfl, hh⟩
 obtain ⟨S1, T1, D1, k1, k2, k3, k4, k5, k6, k7, k8, k9⟩ := hh.out
 have hT : ∀ i, (i = a.m ∨ Φ 6 i) → Φ 6 i ∨ Φ 5 i := fun i hi => hi.elim (fun e => .inr ((hS5 i).2 e)) .inl
 generalize hst : stp (wOf U) s.F s.W s.cy x = R at *
 have F2 := F.turn2 (P' := Pt cf a X { s with F := R.2.1, W := R.2.2.1, cy := balOf R } L) (fun j _ => stays_part hX j) (show 6 < N by omega) (show 5 < N by omega) (by omega) (fun j _ h6 h5 => by rcases j with _ | _ | _ | _ | _ | _ | _ | _ | j <;> first | rfl | exact absurd rfl h6 | exact absurd rfl h5) (stays_part hX 6) (stays_part hX 5) k1 (R' := Φ 5) ⟨⟨_, _, _, k4, k5⟩, hS5⟩ k2 (fun i hi => hi) (fun i hi h5 => k3 (by rw [(hS5 i).1 h5] at hi; exact hi)) k8 hT
 have hq : Pt cf a (xput X N (RowP 280 3 (.slice v R.1.length cp) R.1.length (rowA (ep + 1) R.1))) { s with F := R.2.1, W := R.2.2.1, cy := balOf R } L N w' (fun i => (Value.slice v R.1.length cp).ownBlock = some i) := by rw [pt_high hN, xput_same]; exact row_zero k6
 have hold : ∀ j, j < N → ∀ i, fput (fput Φ 6 S1) 5 (Φ 5) j i → ¬ (Value.slice v R.1.length cp).ownBlock = some i := fun j hj i hi hv => by
  by_cases h5 : j = 5
  ·subst h5; rw [fput_same] at hi
   have := (owns_lt k6 i hv).1
   have := F.lt 5 hj i hi
   omega
  ·rw [fput_other h5] at hi
   by_cases h6 : j = 6
   ·subst h6; rw [fput_same] at hi; exact k7 i hv hi
   ·rw [fput_other h6] at hi
    have := (owns_lt k6 i hv).1
    have := F.lt j hj i hi
    omega
 have F3 := F2.put (pt_xput hN) hq (fun i hi => (owns_lt k6 i hi).2) hold
 refine ⟨_, rfl, ⟨_, F3, fun j hj i hi => ?_, below_kept g2 k8 (fun i hi => (hT i hi).elim (g1 6 (by omega) i) (g1 5 (by omega) i))⟩, k8.size⟩
 by_cases hjN : j = N
 ·subst hjN; rw [fput_same] at hi; exact .inr (Nat.le_trans g2.size (owns_lt k6 i hi).1)
 ·rw [fput_other hjN] at hi
  by_cases h5 : j = 5
  ·subst h5; rw [fput_same] at hi; exact g1 5 (by omega) i hi
  ·rw [fput_other h5] at hi
   exact en_new g1 g2 (show 6 < N by omega) k2 j (by omega) i hi
theorem En.pall (h : En N w0 w cf a X s L) (hX : ∀ k, 8 ≤ k → Stays (X k)) (hN : 8 ≤ N) :
  Calls Tryz.prog 45 #[.pointer (some ⟨a.p, 0, none⟩)] w fun e w' => e = .returned (.slice (some ⟨w.heap.size, 0, none⟩) s.pd.length s.pd.length) ∧ En (N + 1) w0 w' cf a (xput X N (BlkP w.heap.size 3 (s.pd.map (Value.int .i64)).toArray)) s L ∧ Below w.heap.size w w' := by
 obtain ⟨S, ⟨go, hp, _⟩, _⟩ := h.part (show 7 < N by omega)
 refine (ri_all_any a.p _ _ go _ w hp).mono ?_
 rintro e w' ⟨rfl, h1, h2⟩
 exact ⟨rfl, h.more hX hN stays_block (S' := fun i => i = w.heap.size) ⟨h1, fun i => Iff.rfl⟩ (fun i hi => Nat.le_of_eq hi.symm) h2, h2⟩
end
end
section
open Go Go.RowKit
set_option maxRecDepth 100000
section
variable {N : Nat} {w0 : Org} {w w' w1 : World} {cf : Nat → Int} {a : Pl} {X X' : Nat → World → (Nat → Prop) → Prop} {s s' : Sg} {L L' : List Ent}
theorem En.turnX (h : En N w0 w cf a X s L) (hX : ∀ k, 8 ≤ k → Stays (X k)) {k : Nat} (hk : k < N) (hst : Stays (Pt cf a X' s' L' k)) (hsame : ∀ j, j < N → j ≠ k → Pt cf a X' s' L' j = Pt cf a X s L j)
  (hn : ∀ S, Pt cf a X s L k w S → ∃ S', Pt cf a X' s' L' k w' S' ∧ (∀ i, S' i → S i ∨ w.heap.size ≤ i) ∧ Kept S w w') : En N w0 w' cf a X' s' L' := by
 obtain ⟨Φ, F, h1, h2⟩ := h
 obtain ⟨S', p1, p2, p3⟩ := hn _ (F.part k hk)
 exact ⟨_, F.turn (fun j _ => stays_part hX j) hk hsame hst p1 p2 p3, en_new h1 h2 hk p2, below_kept h2 p3 (h1 k hk)⟩
theorem xput_again {Q Q' : World → (Nat → Prop) → Prop} {r : Nat} : xput (xput X r Q) r Q' = xput X r Q' := by
 funext k; unfold xput; split <;> rfl
theorem xput_ne {Q : World → (Nat → Prop) → Prop} {k r : Nat} (h : k ≠ r) : xput X r Q k = X k := if_neg h
theorem pt_xput_ne {Q : World → (Nat → Prop) → Prop} {r j : Nat} (h8 : 8 ≤ r) (h : j ≠ r) : Pt cf a (xput X r Q) s L j = Pt cf a X s L j := by
 rcases Nat.lt_or_ge j 8 with h1 | h1
 ·rcases j with _ | _ | _ | _ | _ | _ | _ | _ | j <;> first | rfl | omega
 ·rw [pt_high h1, pt_high h1]
  exact if_neg h
theorem pt_xput_eq {Q : World → (Nat → Prop) → Prop} {r : Nat} (h8 : 8 ≤ r) : Pt cf a (xput X r Q) s L r = Q := by rw [pt_high h8]; exact if_pos rfl
theorem En.own (h : En N w0 w cf a X s L) (hX : ∀ k, 8 ≤ k → Stays (X k)) {r : Nat} (h8 : 8 ≤ r) (hr : r < N) {Q Q' : World → (Nat → Prop) → Prop} (hx : X r = Q) (hQ : Stays Q')
  (hn : ∀ S, Q w S → ∃ S', Q' w' S' ∧ (∀ i, S' i → S i ∨ w.heap.size ≤ i) ∧ Kept S w w') : En N w0 w' cf a (xput X r Q') s L := by
 refine h.turnX hX hr (by rw [pt_xput_eq h8]; exact hQ) (fun j _ hj => pt_xput_ne h8 hj) fun S hS => ?_
 rw [pt_high h8, hx] at hS
 rw [pt_xput_eq h8]
 exact hn S hS
theorem En.as (h : En N w0 w cf a X s L) (hX : ∀ k, 8 ≤ k → Stays (X k)) {r : Nat} (h8 : 8 ≤ r) (hr : r < N) {Q Q' : World → (Nat → Prop) → Prop} (hx : X r = Q) (hQ : Stays Q') (hn : ∀ S, Q w S → Q' w S) : En N w0 w cf a (xput X r Q') s L :=
 h.own hX h8 hr hx hQ fun S hS => ⟨S, hn S hS, fun i hi => .inl hi, Kept.refl _ _⟩
theorem En.drewN (h : En N w0 w cf a X s L) (hX : ∀ k, 8 ≤ k → Stays (X k)) (n : Nat) : En N w0 (w.drewN n) cf a X s L := h.below hX (below_drewN (Below.refl _ _) n)
theorem En.drew (h : En N w0 w cf a X s L) (hX : ∀ k, 8 ≤ k → Stays (X k)) : En N w0 w.drew cf a X s L := h.below hX (Below.refl _ _).drew
theorem En.box (h : En N w0 w cf a X s L) (hX : ∀ k, 8 ≤ k → Stays (X k)) (hN : 8 ≤ N) (cs : Array Value) (t : TypeId) : En (N + 1) w0 (w.alloc (.cells cs t)) cf a (xput X N (BlkP w.heap.size t cs)) s L :=
 h.more hX hN stays_block (S' := fun i => i = w.heap.size) ⟨Blk.new w t cs, fun i => Iff.rfl⟩ (fun i hi => Nat.le_of_eq hi.symm) ((Below.refl _ _).alloc (Nat.le_refl _) _)
theorem En.blkAt (h : En N w0 w cf a X s L) {r g t : Nat} {cs : Array Value} (h8 : 8 ≤ r) (hr : r < N) (hx : X r = BlkP g t cs) : Blk w g t cs := by
 obtain ⟨S, hp, _⟩ := h.part hr
 rw [pt_high h8, hx] at hp
 exact hp.1
theorem En.setr (h : En N w0 w cf a X s L) (hX : ∀ k, 8 ≤ k → Stays (X k)) {r g t : Nat} {cs cs' : Array Value} (h8 : 8 ≤ r) (hr : r < N) (hx : X r = BlkP g t cs) (hw : Blk w' g t cs') (hk : Kept (fun i => i = g) w w') : En N w0 w' cf a (xput X r (BlkP g t cs')) s L :=
 h.own hX h8 hr hx stays_block fun S hS => ⟨S, ⟨hw, hS.2⟩, fun i hi => .inl hi, hk.more fun i _ hi => (hS.2 i).2 hi⟩
theorem En.grow {ops : Array Oper} {rest : List Oper} {o : Oper} {c : Act} {Q : Exit → Act → World → Prop} (h : En N w0 w cf a X s L) (hX : ∀ k, 8 ≤ k → Stays (X k)) {r : Nat} (h8 : 8 ≤ r) (hr : r < N) {e : TypeId} {size n : Nat} {v : Value} {xs : List Value} (hx : X r = RowP e size v n xs)
  (hgd : o.guard = none) (sl x : Operand) (t : TypeId) (ho : o.op = .call { callee := .builtin .append, args := #[sl, x], argTypes := #[t, t] }) (i : TypeInfo) (z : Value) (bytes : Nat) (ht : Tryz.prog.underlying t = some (.slice e)) (hi : Tryz.prog.info? e = some i) (hz : i.zero = some z)
  (hsize : i.size = size) (hby : i.bytes = bytes) (hzs : z.cells.size = size) (hsz : 0 < size) (hs : c.eval sl = v) (m : Nat) (news : Array Value) (te : TypeId) (g : Nat) (hg : w.heap.size = g) (hx' : c.eval x = .slice (some ⟨g, 0, none⟩) m m) (hl : news.toList.length = m * size) (h1 : ∀ u ∈ news.toList, u.oneCell' = true)
  (h63 : n + m ≤ maxLen) (hbytes : (n + m) * bytes ≤ 140737488355328)
  (K : ∀ v' w', En N w0 w' cf a (xput X r (RowP e size v' (n + m) (xs ++ news.toList))) s L → w.heap.size ≤ w'.heap.size → wpList Tryz.prog ops Q rest (c.put o.dst v') w') : wpList Tryz.prog ops Q (o :: rest) c (w.alloc (.cells news te)) := by
 subst hg
 have hb : Below w.heap.size w (w.alloc (.cells news te)) := (Below.refl _ _).alloc (Nat.le_refl _) _
 have h' := h.below hX hb
 refine wpList_append_own_at _ hgd sl x t ho 0 e i z size bytes ht hi hz hsize hby hzs hsz v n xs hs (h'.row h8 hr hx) ⟨w.heap.size, 0, none⟩ m m news.toList hx' hl (fun j u hu => ?_) h1 h63 hbytes (Nat.zero_le _) fun v' w' g1 g2 _ g4 => ?_
 ·rw [add_plain, Nat.zero_add, (Blk.new w te news).cell]
  simpa using hu
 ·refine K v' w' (h'.own hX h8 hr hx stays_row fun S hS => ⟨_, row_zero g1, fun j hj => ?_, Kept.of_grown g2 fun j hj => (hS.2 j).2 hj.symm⟩) (Nat.le_trans hb.size g2.size)
  rcases g4 with g4 | g4
  ·rw [g4] at hj; exact .inl ((hS.2 j).2 hj)
  ·rw [g4] at hj; injection hj with hj; exact .inr (Nat.le_of_eq hj)
theorem En.nil (h : En N w0 w cf a X s L) (hX : ∀ k, 8 ≤ k → Stays (X k)) (hN : 8 ≤ N) (e : TypeId) (k : Nat) : En (N + 1) w0 w cf a (xput X N (RowP e k (.slice none 0 0) 0 [])) s L :=
 h.more hX hN stays_row (S' := fun _ => False) ⟨World.ownsRow_nil _ _ _ _, fun i => by simp [Value.ownBlock]⟩ (fun _ h => h.elim) (Below.refl _ _)
theorem En.remap {M : Nat} (h : En M w0 w cf a X s L) (f : Nat → Nat) (hf0 : ∀ k, k < 8 → f k = k) (hf1 : ∀ k, 8 ≤ k → 8 ≤ f k) (hf : ∀ k, k < N → f k < M) (hinj : ∀ j k, j < N → k < N → f j = f k → j = k) (hZ : ∀ k, 8 ≤ k → k < N → X' k = X (f k)) : En N w0 w cf a X' s L := by
 obtain ⟨Φ, F, g1, g2⟩ := h
 refine ⟨_, F.remap f hf hinj fun k hk => ?_, fun k hk => g1 _ (hf k hk), g2⟩
 rcases Nat.lt_or_ge k 8 with h1 | h1
 ·rw [hf0 k h1]
  rcases k with _ | _ | _ | _ | _ | _ | _ | _ | k <;> first | rfl | omega
 ·rw [pt_high h1, pt_high (hf1 k h1), hZ k h1 hk]
theorem En.get_in (h : En N w0 w cf a X s L) (hN : 8 ≤ N) {n : Nat} {v : Val} (hv : s.V[n]? = some v) :
  CallB 126 #[.pointer (some ⟨a.r, 0, none⟩), .int .i64 (n : Int)] w (.tuple #[.agg (cellsV v), .bool true]) := by
 obtain ⟨S, hp, _⟩ := h.part (show 2 < N by omega)
 refine (get_any a.r (cf 0).toNat S n s.V w hp).mono ?_
 rintro e w' ⟨hb, ⟨ho, _⟩ | ⟨k, u, hk, hu, rfl⟩⟩
 ·have := (List.getElem?_eq_some_iff.1 hv).1; omega
 ·obtain rfl : n = k := by omega
  rw [hv] at hu
  obtain rfl := Option.some.inj hu
  exact ⟨rfl, hb⟩
theorem En.count (h : En N w0 w cf a X s L) (hN : 8 ≤ N) {st : Int} (hs : (Lit.int .i64 st).wf = true) :
  CallW 261 #[.pointer (some ⟨a.r, 0, none⟩), .int .i64 st] w (.int .i64 (countOf s.V st)) := by
 obtain ⟨S, hp, _⟩ := h.part (show 2 < N by omega)
 obtain ⟨m, b, cp, _, _, x2, _, _, _, _, hC, _⟩ := Reg.cells hp
 exact count_any a.r m _ st w x2 hC hs
theorem En.len (h : En N w0 w cf a X s L) (hN : 8 ≤ N) :
  CallW 120 #[.pointer (some ⟨a.r, 0, none⟩)] w (.int .i64 s.V.length) := by
 obtain ⟨S, hp, _⟩ := h.part (show 2 < N by omega)
 obtain ⟨m, b, cp, _, x1, _⟩ := Reg.cells hp
 exact len_any a.r _ cp b w x1
theorem En.active (h : En N w0 w cf a X s L) (hN : 8 ≤ N) :
  CallW 44 #[.pointer (some ⟨a.r, 0, none⟩)] w (.int .u64 (activeOf s.V)) := by
 obtain ⟨S, hp, _⟩ := h.part (show 2 < N by omega)
 obtain ⟨m, b, cp, _, _, _, x3, _⟩ := Reg.cells hp
 exact active_any a.r _ w x3
theorem En.at_ (h : En N w0 w cf a X s L) (hN : 8 ≤ N) :
  CallW 49 #[.pointer (some ⟨a.k, 0, none⟩)] w (.int .i64 s.cu) := by
 obtain ⟨S, hp, _⟩ := h.part (show 4 < N by omega)
 exact at_any a.k s.cu w hp.1
theorem En.carry (h : En N w0 w cf a X s L) (hN : 8 ≤ N) :
  CallD 50 #[.pointer (some ⟨a.m, 0, none⟩)] w (.int .u64 s.cy) := by
 obtain ⟨S, ⟨⟨Sp, T, D, hm, hf⟩, _⟩, _⟩ := h.part (show 5 < N by omega)
 exact balance_any_13 a.m _ Sp T D w hm hf
theorem En.totals (h : En N w0 w cf a X s L) (hN : 8 ≤ N) :
  CallB 40 #[.pointer (some ⟨a.l, 0, none⟩)] w (.agg #[.int .u64 s.D, .int .u64 s.P, .int .u64 s.B]) := by
 obtain ⟨S, hp, _⟩ := h.part (show 1 < N by omega)
 exact totals_any a.l _ _ _ _ w hp.1
end
end
section
open Go Go.RowKit
set_option maxRecDepth 100000
structure Ql where
 d : Nat
 q : Nat
 e : Nat
def flat2 (l : List (Int × Int)) : List Value := flatR pairRow l
def flatQ (l : List Rq) : List Value := flatR Rq.row l
def engC (c : Nat → Int) (a : Pl) (q : Ql) : Array Value := #[.int .i64 (c 0), .int .i64 (c 1), .int .u64 (c 2), .int .u64 (c 3), .int .u64 (c 4), .int .u64 (c 5), .int .u64 (c 6), .int .u64 (c 7), .int .u64 (c 8), .int .u64 (c 9), .int .i64 (c 10), .int .i64 (c 11), .int .i64 (c 12), .int .i64 (c 13), .int .i64 (c 14), .int .i64 (c 15), .int .i64 (c 16), .int .i64 (c 17), .int .u64 (c 18), .int .u64 (c 19),
 .pointer (some ⟨a.c, 0, none⟩), .pointer (some ⟨a.r, 0, none⟩), .pointer (some ⟨a.l, 0, none⟩), .pointer (some ⟨a.k, 0, none⟩), .pointer (some ⟨a.n, 0, none⟩), .pointer (some ⟨a.m, 0, none⟩), .pointer (some ⟨a.u, 0, none⟩), .pointer (some ⟨a.p, 0, none⟩), .pointer (some ⟨q.d, 0, none⟩), .pointer (some ⟨q.q, 0, none⟩)]
def XE (c : Nat → Int) (a : Pl) (q : Ql) (mg : List (Int × Int)) (pt : List Rq) (X : Nat → World → (Nat → Prop) → Prop) : Nat → World → (Nat → Prop) → Prop
 | 8 => RingQ 151 116 2 q.d (c 1).toNat mg.length (flat2 mg)
 | 9 => RingQ 154 119 2 q.q (c 1).toNat pt.length (flatQ pt)
 | 10 => BlkP q.e 102 (engC c a q)
 | k => X k
def Eg (N : Nat) (w0 : Org) (w : World) (c : Nat → Int) (a : Pl) (q : Ql) (Z : Nat → World → (Nat → Prop) → Prop) (s : Sg) (L : List Ent) : Prop :=
 ∃ X, (∀ k, 11 ≤ k → Stays (X k)) ∧ (∀ k, 11 ≤ k → k < N → X k = Z k) ∧ 11 ≤ N ∧ En N w0 w c a (XE c a q s.mg s.pt X) s L
section
variable {N : Nat} {w0 : Org} {w w' w1 : World} {c : Nat → Int} {a : Pl} {q : Ql} {X Z Z' : Nat → World → (Nat → Prop) → Prop} {s s' : Sg} {L L' : List Ent}
theorem xe_stays (hX : ∀ k, 11 ≤ k → Stays (X k)) {mg : List (Int × Int)} {pt : List Rq} : ∀ k, 8 ≤ k → Stays (XE c a q mg pt X k) := fun k hk => by
 rcases Nat.lt_or_ge k 11 with h | h
 ·obtain rfl | rfl | rfl : k = 8 ∨ k = 9 ∨ k = 10 := by omega
  ·exact stays_ring
  ·exact stays_ring
  ·exact stays_block
 ·obtain ⟨j, rfl⟩ : ∃ j, k = j + 11 := ⟨k - 11, by omega⟩
  exact hX _ (by omega)
theorem xe_high {mg : List (Int × Int)} {pt : List Rq} {k : Nat} (hk : 11 ≤ k) : XE c a q mg pt X k = X k := by
 obtain ⟨j, rfl⟩ : ∃ j, k = j + 11 := ⟨k - 11, by omega⟩
 rfl
theorem xe_put {mg : List (Int × Int)} {pt : List Rq} {Q : World → (Nat → Prop) → Prop} (hN : 11 ≤ N) : xput (XE c a q mg pt X) N Q = XE c a q mg pt (xput X N Q) := by
 funext k
 rcases Nat.lt_or_ge k 11 with h | h
 ·have : xput (XE c a q mg pt X) N Q k = XE c a q mg pt X k := if_neg (by omega)
  rw [this]
  rcases k with _ | _ | _ | _ | _ | _ | _ | _ | _ | _ | _ | k
  all_goals first | omega | rfl | skip
  all_goals exact (if_neg (by omega)).symm
 ·unfold xput
  rw [xe_high h, xe_high h]
theorem Eg.open (h : Eg N w0 w c a q Z s L) : ∃ X, (∀ k, 8 ≤ k → Stays (X k)) ∧ 8 ≤ N ∧ En N w0 w c a X s L ∧
  (∀ w' s' L', En N w0 w' c a X s' L' → s'.mg = s.mg → s'.pt = s.pt → Eg N w0 w' c a q Z s' L') ∧
  (∀ w' s' L' Q, En (N + 1) w0 w' c a (xput X N Q) s' L' → Stays Q → s'.mg = s.mg → s'.pt = s.pt → Eg (N + 1) w0 w' c a q (xput Z N Q) s' L') ∧ (∀ k, 11 ≤ k → k < N → X k = Z k) ∧ X 10 = BlkP q.e 102 (engC c a q) := by
 obtain ⟨X, hX, hZ, hN, h⟩ := h
 refine ⟨_, xe_stays hX, by omega, h, fun w' s' L' h' e1 e2 => ⟨X, hX, hZ, hN, by rw [e1, e2]; exact h'⟩, fun w' s' L' Q h' hQ e1 e2 => ⟨xput X N Q, fun k hk => ?_, fun k h1 h2 => ?_, by omega, ?_⟩, fun k hk hk2 => by rw [xe_high hk, hZ k hk hk2], rfl⟩
 ·unfold xput; split
  ·exact hQ
  ·exact hX k hk
 ·unfold xput; split
  ·rfl
  ·exact hZ k h1 (by omega)
 ·rw [e1, e2, ← xe_put hN]; exact h'
theorem Eg.low (h : Eg N w0 w c a q Z s L) : 11 ≤ N := by obtain ⟨X, _, _, hN, _⟩ := h; exact hN
theorem Eg.blk (h : Eg N w0 w c a q Z s L) : Blk w q.e 102 (engC c a q) := by
 have hN := h.low
 obtain ⟨X, hX, _, h, _, _, _, h10⟩ := h.open
 exact h.blkAt (r := 10) (by omega) (by omega) h10
theorem Eg.below (h : Eg N w0 w c a q Z s L) (hb : Below w.heap.size w w') : Eg N w0 w' c a q Z s L := by
 obtain ⟨X, hX, _, h, k, _⟩ := h.open
 exact k _ _ _ (h.below hX hb) rfl rfl
theorem Eg.drewN (h : Eg N w0 w c a q Z s L) (n : Nat) : Eg N w0 (w.drewN n) c a q Z s L := h.below (below_drewN (Below.refl _ _) n)
theorem Eg.drew (h : Eg N w0 w c a q Z s L) : Eg N w0 w.drew c a q Z s L := h.below (Below.refl _ _).drew
theorem Eg.ext (h : Eg N w0 w c a q Z s L) (hz : ∀ k, 11 ≤ k → k < N → Z k = Z' k) : Eg N w0 w c a q Z' s L := by
 obtain ⟨X, hX, hZ, hN, h⟩ := h
 exact ⟨X, hX, fun k h1 h2 => (hZ k h1 h2).trans (hz k h1 h2), hN, h⟩
theorem Eg.less (h : Eg (N + 1) w0 w c a q Z s L) (hN : 11 ≤ N) : Eg N w0 w c a q Z s L := by
 obtain ⟨X, hX, hZ, _, h⟩ := h
 exact ⟨X, hX, fun k h1 h2 => hZ k h1 (by omega), hN, h.less⟩
theorem Eg.drop {Q : World → (Nat → Prop) → Prop} (h : Eg (N + 1) w0 w c a q (xput Z N Q) s L) (hN : 11 ≤ N) : Eg N w0 w c a q Z s L := (h.less hN).ext fun k _ h2 => if_neg (by omega)
theorem Eg.box (h : Eg N w0 w c a q Z s L) (cs : Array Value) (t : TypeId) : Eg (N + 1) w0 (w.alloc (.cells cs t)) c a q (xput Z N (BlkP w.heap.size t cs)) s L := by
 obtain ⟨X, hX, hN, h, _, k, _⟩ := h.open
 exact k _ _ _ _ (h.box hX hN cs t) stays_block rfl rfl
theorem Eg.nil (h : Eg N w0 w c a q Z s L) (e : TypeId) (k : Nat) : Eg (N + 1) w0 w c a q (xput Z N (RowP e k (.slice none 0 0) 0 [])) s L := by
 obtain ⟨X, hX, hN, h, _, kk, _⟩ := h.open
 exact kk _ _ _ _ (h.nil hX hN e k) stays_row rfl rfl
theorem Eg.blkAt (h : Eg N w0 w c a q Z s L) {r g t : Nat} {cs : Array Value} (h11 : 11 ≤ r) (hr : r < N) (hx : Z r = BlkP g t cs) : Blk w g t cs := by
 obtain ⟨X, hX, _, h, _, _, hz, _⟩ := h.open
 exact h.blkAt (r := r) (by omega) hr ((hz r h11 hr).trans hx)
theorem Eg.row (h : Eg N w0 w c a q Z s L) {r : Nat} (h11 : 11 ≤ r) (hr : r < N) {e : TypeId} {kk n : Nat} {v : Value} {xs : List Value} (hx : Z r = RowP e kk v n xs) : w.ownsRow 0 e kk v n xs := by
 obtain ⟨X, hX, _, h, _, _, hz, _⟩ := h.open
 exact h.row (r := r) (by omega) hr ((hz r h11 hr).trans hx)
theorem Eg.own (h : Eg N w0 w c a q Z s L) {r : Nat} (h11 : 11 ≤ r) (hr : r < N) {Q Q' : World → (Nat → Prop) → Prop} (hx : Z r = Q) (hQ : Stays Q')
  (hn : ∀ S, Q w S → ∃ S', Q' w' S' ∧ (∀ i, S' i → S i ∨ w.heap.size ≤ i) ∧ Kept S w w') : Eg N w0 w' c a q (xput Z r Q') s L := by
 obtain ⟨X, hX, hZ, hN, h⟩ := h
 refine ⟨xput X r Q', fun k hk => ?_, fun k h1 h2 => ?_, hN, ?_⟩
 ·unfold xput; split
  ·exact hQ
  ·exact hX k hk
 ·unfold xput; split
  ·rfl
  ·exact hZ k h1 h2
 ·rw [← xe_put h11]
  exact h.own (xe_stays hX) (by omega) hr ((xe_high h11).trans ((hZ r h11 hr).trans hx)) hQ hn
theorem Eg.as (h : Eg N w0 w c a q Z s L) {r : Nat} (h11 : 11 ≤ r) (hr : r < N) {Q Q' : World → (Nat → Prop) → Prop} (hx : Z r = Q) (hQ : Stays Q') (hn : ∀ S, Q w S → Q' w S) : Eg N w0 w c a q (xput Z r Q') s L :=
 h.own h11 hr hx hQ fun S hS => ⟨S, hn S hS, fun i hi => .inl hi, Kept.refl _ _⟩
theorem Eg.setr (h : Eg N w0 w c a q Z s L) {r g t : Nat} {cs cs' : Array Value} (h11 : 11 ≤ r) (hr : r < N) (hx : Z r = BlkP g t cs) (hw : Blk w' g t cs') (hk : Kept (fun i => i = g) w w') : Eg N w0 w' c a q (xput Z r (BlkP g t cs')) s L :=
 h.own h11 hr hx stays_block fun S hS => ⟨S, ⟨hw, hS.2⟩, fun i hi => .inl hi, hk.more fun i _ hi => (hS.2 i).2 hi⟩
theorem Eg.more (h : Eg N w0 w c a q Z s L) {Q : World → (Nat → Prop) → Prop} (hQ : Stays Q) {S' : Nat → Prop} (hq : Q w' S') (hS : ∀ i, S' i → w.heap.size ≤ i) (hb : Below w.heap.size w w') : Eg (N + 1) w0 w' c a q (xput Z N Q) s L := by
 obtain ⟨X, hX, hN, h, _, k, _⟩ := h.open
 exact k _ _ _ _ (h.more hX hN hQ hq hS hb) hQ rfl rfl
theorem Eg.remap {M : Nat} (h : Eg M w0 w c a q Z s L) (hN : 11 ≤ N) (f : Nat → Nat) (hf0 : ∀ k, k < 11 → f k = k) (hf1 : ∀ k, 11 ≤ k → 11 ≤ f k) (hf : ∀ k, k < N → f k < M) (hinj : ∀ j k, j < N → k < N → f j = f k → j = k) (hZ : ∀ k, 11 ≤ k → k < N → Z' k = Z (f k)) : Eg N w0 w c a q Z' s L := by
 obtain ⟨X, hX, hZ2, _, h⟩ := h
 refine ⟨fun k => X (f k), fun k hk => hX _ (hf1 k hk), fun k h1 h2 => ?_, hN, h.remap f (fun k hk => hf0 k (by omega)) (fun k hk => ?_) hf hinj fun k h1 h2 => ?_⟩
 ·rw [hZ k h1 h2]; exact hZ2 _ (hf1 k h1) (hf k h2)
 ·rcases Nat.lt_or_ge k 11 with h1 | h1
  ·rw [hf0 k h1]; exact hk
  ·have := hf1 k h1; omega
 ·rcases Nat.lt_or_ge k 11 with h3 | h3
  ·rw [hf0 k h3]
   rcases k with _ | _ | _ | _ | _ | _ | _ | _ | _ | _ | _ | k <;> first | rfl | omega
  ·rw [xe_high h3, xe_high (hf1 k h3)]
theorem Eg.pick {m : Nat} {Q : World → (Nat → Prop) → Prop} (h : Eg (N + m + 1) w0 w c a q Z s L) (hN : 11 ≤ N) (hz : ∀ k, 11 ≤ k → k < N → Z k = Z' k) (hQ : Z (N + m) = Q) : Eg (N + 1) w0 w c a q (xput Z' N Q) s L := by
 refine h.remap (by omega) (fun k => if k = N then N + m else k) (fun k hk => if_neg (by omega)) (fun k hk => by split <;> omega) (fun k hk => by split <;> omega) (fun j k hj hk e => ?_) fun k h1 h2 => ?_
 ·skip
  split at e <;> split at e <;> omega
 ·unfold xput
  by_cases hk : k = N
  ·rw [if_pos hk, if_pos hk, hQ]
  ·rw [if_neg hk, if_neg hk]; exact (hz k h1 (by omega)).symm
theorem Eg.grow {ops : Array Oper} {rest : List Oper} {o : Oper} {d : Act} {Q : Exit → Act → World → Prop} (h : Eg N w0 w c a q Z s L) {r : Nat} (h11 : 11 ≤ r) (hr : r < N) {e : TypeId} {size n : Nat} {v : Value} {xs : List Value} (hx : Z r = RowP e size v n xs)
  (hgd : o.guard = none) (sl x : Operand) (t : TypeId) (ho : o.op = .call { callee := .builtin .append, args := #[sl, x], argTypes := #[t, t] }) (i : TypeInfo) (z : Value) (bytes : Nat) (ht : Tryz.prog.underlying t = some (.slice e)) (hi : Tryz.prog.info? e = some i) (hz : i.zero = some z)
  (hsize : i.size = size) (hby : i.bytes = bytes) (hzs : z.cells.size = size) (hsz : 0 < size) (hs : d.eval sl = v) (m : Nat) (news : Array Value) (te : TypeId) (g : Nat) (hg : w.heap.size = g) (hx' : d.eval x = .slice (some ⟨g, 0, none⟩) m m) (hl : news.toList.length = m * size) (h1 : ∀ u ∈ news.toList, u.oneCell' = true)
  (h63 : n + m ≤ maxLen) (hbytes : (n + m) * bytes ≤ 140737488355328)
  (K : ∀ v' w', Eg N w0 w' c a q (xput Z r (RowP e size v' (n + m) (xs ++ news.toList))) s L → w.heap.size ≤ w'.heap.size → wpList Tryz.prog ops Q rest (d.put o.dst v') w') : wpList Tryz.prog ops Q (o :: rest) d (w.alloc (.cells news te)) := by
 obtain ⟨X, hX, hZ, hN, h⟩ := h
 refine h.grow (xe_stays hX) (show 8 ≤ r by omega) hr ((xe_high h11).trans ((hZ r h11 hr).trans hx)) hgd sl x t ho i z bytes ht hi hz hsize hby hzs hsz hs m news te g hg hx' hl h1 h63 hbytes fun v' w' h' hle => K v' w' ⟨xput X r (RowP e size v' (n + m) (xs ++ news.toList)), fun k hk => ?_, fun k h1 h2 => ?_, hN, by rw [← xe_put h11]; exact h'⟩ hle
 ·unfold xput; split
  ·exact stays_row
  ·exact hX k hk
 ·unfold xput; split
  ·rfl
  ·exact hZ k h1 h2
end
end
section
open Go Go.RowKit
theorem owns_whole {w : World} {g t k n : Nat} {xs : List Value} (h : Blk w g t xs.toArray) (hl : xs.length = n * k) (hn : n ≤ maxLen) : w.ownsRow 0 t k (.slice (some ⟨g, 0, none⟩) n n) n xs :=
 ⟨hl, .inr ⟨g, n, _, rfl, Nat.zero_le _, h, Nat.le_refl _, hn, by simpa using hl, List.take_of_length_le (by simp; omega)⟩⟩
section
variable {N : Nat} {w0 : Org} {w w' w1 : World} {c : Nat → Int} {a : Pl} {q : Ql} {Z : Nat → World → (Nat → Prop) → Prop} {s s' : Sg} {L L' : List Ent}
theorem Eg.torow (h : Eg N w0 w c a q Z s L) {r g t k n : Nat} {xs : List Value} (h11 : 11 ≤ r) (hr : r < N) (hx : Z r = BlkP g t xs.toArray) (hl : xs.length = n * k) (hn : n ≤ maxLen) : Eg N w0 w c a q (xput Z r (RowP t k (.slice (some ⟨g, 0, none⟩) n n) n xs)) s L :=
 h.as h11 hr hx stays_row fun S hS => ⟨owns_whole hS.1 hl hn, fun i => by rw [hS.2 i]; simp [Value.ownBlock]; exact eq_comm⟩
end
end
section
open Go Go.RowKit Go.Deep
set_option maxRecDepth 100000
section
variable {N : Nat} {w0 : Org} {w w' w1 : World} {c : Nat → Int} {a : Pl} {q : Ql} {X Z : Nat → World → (Nat → Prop) → Prop} {s s' : Sg} {L L' : List Ent}
theorem mg_row_len (l : List (Int × Int)) : (flat2 l).length = l.length * 2 := flatR_len (row := pairRow) (k := 2) (fun _ => rfl) l
theorem Eg.mall (h : Eg N w0 w c a q Z s L) : Calls Tryz.prog 47 #[.pointer (some ⟨q.d, 0, none⟩)] w fun e w' => e = .returned (.slice (some ⟨w.heap.size, 0, none⟩) s.mg.length s.mg.length) ∧ Eg (N + 1) w0 w' c a q (xput Z N (BlkP w.heap.size 116 (flat2 s.mg).toArray)) s L ∧ Below w.heap.size w w' := by
 have h' := h
 obtain ⟨X, hX, hZ, hN, h⟩ := h
 obtain ⟨S, ⟨go, hp, _⟩, _⟩ := h.part (k := 8) (show 8 < N by omega)
 refine (r2_all_any q.d _ _ go _ w hp).mono ?_
 rintro e w' ⟨rfl, h1, h2⟩
 exact ⟨rfl, h'.more stays_block (S' := fun i => i = w.heap.size) ⟨h1, fun i => Iff.rfl⟩ (fun i hi => Nat.le_of_eq hi.symm) h2, h2⟩
theorem pt_row_len (l : List (Rq)) : (flatQ l).length = l.length * 2 := flatR_len (row := Rq.row) (k := 2) (fun _ => rfl) l
theorem Eg.tall (h : Eg N w0 w c a q Z s L) : Calls Tryz.prog 48 #[.pointer (some ⟨q.q, 0, none⟩)] w fun e w' => e = .returned (.slice (some ⟨w.heap.size, 0, none⟩) s.pt.length s.pt.length) ∧ Eg (N + 1) w0 w' c a q (xput Z N (BlkP w.heap.size 119 (flatQ s.pt).toArray)) s L ∧ Below w.heap.size w w' := by
 have h' := h
 obtain ⟨X, hX, hZ, hN, h⟩ := h
 obtain ⟨S, ⟨go, hp, _⟩, _⟩ := h.part (k := 9) (show 9 < N by omega)
 refine (rq_all_any q.q _ _ go _ w hp).mono ?_
 rintro e w' ⟨rfl, h1, h2⟩
 exact ⟨rfl, h'.more stays_block (S' := fun i => i = w.heap.size) ⟨h1, fun i => Iff.rfl⟩ (fun i hi => Nat.le_of_eq hi.symm) h2, h2⟩
end
end
section
open Go Go.RowKit
set_option maxRecDepth 100000
section
variable {N : Nat} {w0 : Org} {w w' w1 : World} {c : Nat → Int} {a : Pl} {q : Ql} {Z : Nat → World → (Nat → Prop) → Prop} {s s' : Sg} {L L' : List Ent}
theorem eblock (h : Eg N w0 w c a q Z s L) : CallW 41 #[.pointer (some ⟨q.e, 20, none⟩)] w (.int .i64 s.bk) := by
 have x0 := cel h.blk 20
 obtain ⟨X, hX, hN, hh, _⟩ := h.open
 have H := Lib.hid (hh.block hN)
 clear h hh hX hN
 go_enter Tryz.func41, Tryz.ntmps41
 go_wp2_with fail
 refine H.out.mono ?_
 rintro e w' ⟨rfl, rfl⟩
 go_wp2_with fail
 go_ret
 exact ⟨rfl, rfl⟩
theorem eepoch (h : Eg N w0 w c a q Z s L) (h0 : 0 ≤ s.bk) (h1 : s.bk ≤ 9223372036854775807) (hL : 1 ≤ c 13) (he : s.ep = s.bk / c 13) :
  CallD 42 #[.pointer (some ⟨q.e, 20, none⟩)] w (.int .i64 s.ep) := by
 have x0 := cel h.blk 20
 obtain ⟨X, hX, hN, hh, _⟩ := h.open
 have H := Lib.hid (hh.epoch hN h0 h1 hL he)
 clear h hh hX hN h0 h1 hL he
 go_enter Tryz.func42, Tryz.ntmps42
 go_wp2_with fail
 refine H.out.mono ?_
 rintro e w' ⟨rfl, m, rfl⟩
 go_wp2_with fail
 go_ret
 exact ⟨rfl, m, rfl⟩
structure Tm (c : Nat → Int) (s : Sg) : Prop where
 b0 : 0 ≤ s.bk
 b1 : s.bk ≤ 9223372036854775807
 l : 1 ≤ c 13
 q : s.ep = s.bk / c 13
theorem Inv.tm {k : Nat} (hc : GE c) (h : Inv c k s) (hk : k ≤ 1000000) : Tm c s := ⟨h.bk0, by have := h.bk1; omega, hc.g.len0, h.epq⟩
variable {b : Nat} {o : Oq}
end
end
section
open Go Go.RowKit Go.Deep
set_option maxRecDepth 100000
def vU64 (x : Int) : Value := .int .u64 x
end
section
open Go Go.RowKit Go.Deep
set_option maxRecDepth 100000
section
variable {N : Nat} {w0 : Org} {w : World} {c : Nat → Int} {a : Pl} {q : Ql} {Z : Nat → World → (Nat → Prop) → Prop} {s : Sg} {L : List Ent} {b : Nat} {o : Oq}
theorem Eg.x22 (h : Eg N w0 w c a q Z s L) : w.cell? ⟨q.e, 22, none⟩ = some (.pointer (some ⟨a.l, 0, none⟩)) := h.blk.cell 22
end
end
section
open Go Go.RowKit Go.Deep
set_option maxRecDepth 100000
section
variable {N : Nat} {w0 : Org} {w w' w1 : World} {c : Nat → Int} {a : Pl} {q : Ql} {Z : Nat → World → (Nat → Prop) → Prop} {s s' : Sg} {L L' : List Ent} {k : Nat}
theorem Eg.all (h : Eg N w0 w c a q Z s L) : Calls Tryz.prog 43 #[.pointer (some ⟨a.r, 0, none⟩)] w fun e w' => ∃ v, e = .returned v ∧ Eg (N + 1) w0 w' c a q (xput Z N (RowP 68 7 v s.V.length (flat s.V))) s L ∧ Below w.heap.size w w' := by
 obtain ⟨X, hX, hN8, hh, _, hK, _⟩ := h.open
 refine (hh.all hX hN8).mono fun e w' ⟨v, he, h1, h2⟩ => ⟨v, he, hK _ _ _ _ h1 stays_row rfl rfl, h2⟩
end
end
section
open Go Go.RowKit Go.Deep
set_option maxRecDepth 100000
section
variable {N : Nat} {w0 : Org} {w w' w1 : World} {c : Nat → Int} {a : Pl} {q : Ql} {Z : Nat → World → (Nat → Prop) → Prop} {s s' : Sg} {L L' : List Ent} {k : Nat}
theorem Eg.get (h : Eg N w0 w c a q Z s L) {n : Nat} (hn : n < s.V.length) : CallB 126 #[.pointer (some ⟨a.r, 0, none⟩), .int .i64 (n : Int)] w (.tuple #[.agg (cellsV (s.V.getD n val0)), .bool true]) := by
 obtain ⟨X, hX, hN8, hh, _⟩ := h.open
 exact hh.get_in hN8 (by rw [List.getD_eq_getElem?_getD, List.getElem?_eq_getElem hn]; rfl)
end
end
section
open Go Go.RowKit Go.Deep
set_option maxRecDepth 100000
section
variable {N : Nat} {w0 : Org} {w w' w1 : World} {c : Nat → Int} {a : Pl} {q : Ql} {Z : Nat → World → (Nat → Prop) → Prop} {s s' : Sg} {L L' : List Ent} {k : Nat}
theorem Eg.due (h : Eg N w0 w c a q Z s L) {ep : Int} (h0 : 0 ≤ ep) (h1 : ep ≤ 1099511627776) (hL : L.length ≤ 100000) :
  Calls Tryz.prog 234 #[.pointer (some ⟨a.u, 0, none⟩), .int .i64 ep] w fun e w' => ∃ v, e = .returned v ∧ Eg (N + 1) w0 w' c a q (xput Z N (RowP 3 1 v (goes ep L).length ((goes ep L).map (Value.int .i64)))) s (stay ep L) := by
 obtain ⟨X, hX, hN8, hh, _, hK, _⟩ := h.open
 refine (hh.due hX hN8 h0 h1 hL).mono fun e w' ⟨v, he, g1, _⟩ => ⟨v, he, hK _ _ _ _ g1 stays_row rfl rfl⟩
end
end
section
open Go Go.RowKit Go.Deep
set_option maxRecDepth 100000
def asA (e : Int) (p : Int × Int) : As := ⟨p.1, p.2, e⟩
theorem rowA_flat (e : Int) (l : List (Int × Int)) : rowA e l = flatR As.row (l.map (asA e)) := by
 unfold rowA flatR
 rw [List.flatMap_map]
 rfl
section
variable {N : Nat} {w0 : Org} {w w' w1 : World} {c : Nat → Int} {a : Pl} {q : Ql} {Z : Nat → World → (Nat → Prop) → Prop} {s s' : Sg} {L L' : List Ent} {k : Nat}
def asS (s : Sg) (R : List (Int × Int) × List Int × List Int × Int) : Sg := { s with F := R.2.1, W := R.2.2.1, cy := balOf R }
theorem Eg.assign (h : Eg N w0 w c a q Z s L) {r : Nat} (h11 : 11 ≤ r) (hr : r < N) {wv : Value} {U : List Int} {nu : Nat} {x ep : Int} (hx8 : Z r = RowP 23 1 wv nu (U.map vU64)) (hl : U.length ≤ 9223372036854775807) (hA : Amts U) (hx : 0 ≤ x) (he0 : 0 ≤ ep) (he1 : ep ≤ 1099511627776) :
  Calls Tryz.prog 235 #[.int .i64 ep, .pointer (some ⟨a.n, 0, none⟩), .pointer (some ⟨a.m, 0, none⟩), .int .u64 x, wv] w fun e w' => ∃ v, e = .returned v ∧
   Eg (N + 1) w0 w' c a q (xput Z N (RowP 280 3 v (stp (wOf U) s.F s.W s.cy x).1.length (flatR As.row ((stp (wOf U) s.F s.W s.cy x).1.map (asA (ep + 1)))))) (asS s (stp (wOf U) s.F s.W s.cy x)) L := by
 obtain ⟨X, hX, hN8, hh, _, hK, hz, _⟩ := h.open
 refine (hh.assign hX hN8 (r := r) (by omega) hr (hz r h11 hr |>.trans hx8) hl hA hx he0 he1).mono fun e w' ⟨v, he, g1, _⟩ => ⟨v, he, ?_⟩
 rw [rowA_flat] at g1
 exact hK _ _ _ _ g1 stays_row rfl rfl
end
end
section
open Go Go.RowKit Go.Deep
set_option maxRecDepth 100000
def MgOk (V : List Val) (mg : List (Int × Int)) : Prop := ∀ p ∈ mg, ∃ i j : Nat, p = ((i : Int), (j : Int)) ∧ i < V.length ∧ j < V.length
end
section
open Go Go.RowKit Go.Deep
set_option maxRecDepth 100000
section
variable {N : Nat} {w0 : Org} {w w' w1 : World} {c cf : Nat → Int} {a : Pl} {q : Ql} {X Z : Nat → World → (Nat → Prop) → Prop} {s s' : Sg} {L L' : List Ent} {k : Nat}
theorem Eg.active (h : Eg N w0 w c a q Z s L) : CallW 44 #[.pointer (some ⟨a.r, 0, none⟩)] w (.int .u64 (activeOf s.V)) := by
 obtain ⟨X, hX, hN8, hh, _⟩ := h.open
 exact hh.active hN8
end
end
section
open Go Go.RowKit Go.Deep
set_option maxRecDepth 100000
section
variable {N : Nat} {w0 : Org} {w w' w1 : World} {c cf : Nat → Int} {a : Pl} {q : Ql} {X Z : Nat → World → (Nat → Prop) → Prop} {s s' : Sg} {L L' : List Ent} {k : Nat}
theorem Eg.ep (h : Eg N w0 w c a q Z s L) (x : Int) : Eg N w0 w c a q Z { s with ep := x } L := h
end
end
section
open Go Go.RowKit Go.Deep Go.Maps
set_option maxRecDepth 100000
structure Std (c : Nat → Int) (k : Nat) (s : Sg) (L : List Ent) : Prop where
 ge : GE c
 q8 : c 8 ≤ 18446744073709551615
 hund : c 0 ≤ 100
 inv : Inv c k s
 ring : RingOk s.ep s.V L
 mg : MgOk s.V s.mg
theorem MgOk.mono {V W : List Val} {mg mg' : List (Int × Int)} (h : MgOk V mg) (hl : V.length ≤ W.length) (hm : ∀ p ∈ mg', p ∈ mg) : MgOk W mg' := fun p hp => by
 obtain ⟨i, j, e, h1, h2⟩ := h p (hm p hp)
 exact ⟨i, j, e, by omega, by omega⟩
section
variable {N : Nat} {w0 : Org} {w w' w1 : World} {c cf : Nat → Int} {a : Pl} {q : Ql} {X Z : Nat → World → (Nat → Prop) → Prop} {s s' : Sg} {L L' : List Ent} {k : Nat}
theorem op_mg (h : Std c k s L) (hk : k ≤ 1000000) (o : Oq) : MgOk (opO c s o).2.V (opO c s o).2.mg := by
 unfold opO
 by_cases h1 : o.kd = 1
 ·rw [if_pos h1]; unfold depO; split
  ·exact h.mg.mono (by show _ ≤ (s.V ++ _).length; rw [List.length_append]; omega) fun _ h => h
  ·exact h.mg
 rw [if_neg h1]
 by_cases h2 : o.kd = 2
 ·rw [if_pos h2]; unfold exO; split
  ·exact h.mg.mono (by show _ ≤ (s.V.set _ _).length; rw [List.length_set]; omega) fun _ h => h
  ·exact h.mg
 rw [if_neg h2]
 by_cases h3 : o.kd = 3
 ·rw [if_pos h3]; unfold exO; split
  ·exact h.mg.mono (by show _ ≤ (s.V.set _ _).length; rw [List.length_set]; omega) fun _ h => h
  ·exact h.mg
 rw [if_neg h3]
 by_cases h4 : o.kd = 4
 ·rw [if_pos h4]; unfold slO; split
  ·exact h.mg.mono (by show _ ≤ (s.V.set _ _).length; rw [List.length_set]; omega) fun _ h => h
  ·exact h.mg
 rw [if_neg h4]
 by_cases h5 : o.kd = 5
 ·rw [if_pos h5]; unfold cnO; split
  ·rename_i h0
   intro p hp
   rcases List.mem_append.1 hp with hp | hp
   ·exact h.mg p hp
   ·rw [List.mem_singleton] at hp
    subst hp
    have h0' : reqM s.V (o.ix, o.tg) (c 6) = 0 := by
     unfold cnC at h0
     split at h0
     ·omega
     ·rename_i h; exact Classical.not_not.1 h
    obtain ⟨i, j, sv, dv, e, _, hi, hj, _⟩ := req_in h0'
    exact ⟨i, j, e, (List.getElem?_eq_some_iff.1 hi).1, (List.getElem?_eq_some_iff.1 hj).1⟩
  ·exact h.mg
 rw [if_neg h5]
 by_cases h6 : o.kd = 6
 ·rw [if_pos h6]; unfold paO; split
  ·exact h.mg
  ·exact h.mg
 rw [if_neg h6]
 split
 ·have hi := nx_inv h.ge h.inv hk
  obtain ⟨g, hn, hr⟩ := tk_ripe h.ge hi
  obtain ⟨f1, _⟩ := full_goes (tkI c (nxS c s)) (tkV c (nxS c s)) g.vok hn hr
  have e1 : (tkS c (nxS c s)).V.length = (nxS c s).V.length := (f1.len).trans g.len
  have e2 : MgOk (nxS c s).V (nxS c s).mg := by
   unfold nxS
   split
   ·have b := bd_ok h.ge h.inv hk
    refine h.mg.mono ?_ fun p hp => List.mem_of_mem_drop hp
    show s.V.length ≤ (stepL (c 6) (bdE c (upS s)) (s.mg.take (stepN c s.mg))).length
    rw [stepL_len, b.l3]
    exact Nat.le_refl _
   ·exact h.mg
  exact e2.mono (by rw [show (tkO c s).2.V = (tkS c (nxS c s)).V from rfl, e1]; exact Nat.le_refl _) fun _ h => h
 ·exact h.mg
theorem Std.op (h : Std c k s L) (hk : k ≤ 1000000) (o : Oq) (ho : FitsOq o) : Std c (k + 1) (opO c s o).2 (ringO c s L o) :=
 ⟨h.ge, h.q8, h.hund, op_inv h.ge h.inv hk o ho, ring_op h.ge h.inv hk h.ring o, op_mg h hk o⟩
end
end
section
open Go Go.RowKit Go.Deep
set_option maxRecDepth 100000
def Gs (n B : Nat) (P : Nat → World → (Nat → Prop) → Prop) (w : World) : Prop :=
 (∀ j, Stays (P j)) ∧ ∃ Φ, Fam n P Φ w ∧ ∀ k, k < n → ∀ i, Φ k i → B ≤ i
def noP : Nat → World → (Nat → Prop) → Prop := fun _ _ _ => False
section
variable {n m B C : Nat} {P Q : Nat → World → (Nat → Prop) → Prop} {w w' : World}
theorem Gs.zero : Gs 0 B noP w := ⟨fun j => ⟨fun w S h => h.elim, fun w w' S T h => h.elim⟩, fun _ _ => False, Fam.zero, fun k hk => by omega⟩
theorem pput_stays {R : World → (Nat → Prop) → Prop} (hP : ∀ j, Stays (P j)) (hR : Stays R) : ∀ j, Stays (xput P n R j) := fun j => by
 unfold xput; split
 ·exact hR
 ·exact hP j
theorem Gs.more {R : World → (Nat → Prop) → Prop} {S' : Nat → Prop} (h : Gs n B P w) (hR : Stays R) (hr : R w' S') (hS : ∀ i, S' i → w.heap.size ≤ i) (hb : Below w.heap.size w w') (hB : B ≤ w.heap.size) : Gs (n + 1) B (xput P n R) w' := by
 obtain ⟨hP, Φ, F, h1⟩ := h
 have hP' := pput_stays (n := n) hP hR
 refine ⟨hP', _, F.more (P' := xput P n R) (fun j _ => hP j) (hP' n) (fun j hj => if_neg (by omega)) (by rw [show xput P n R n = R from if_pos rfl]; exact hr) hS hb, fun k hk i hi => ?_⟩
 by_cases hkn : k = n
 ·subst hkn
  rw [fput_same] at hi
  exact Nat.le_trans hB (hS i hi)
 ·rw [fput_other hkn] at hi
  exact h1 k (by omega) i hi
theorem Gs.kept {T : Nat → Prop} (h : Gs n B P w) (hk : Kept T w w') (hT : ∀ i, T i → i < B) : Gs n B P w' := by
 obtain ⟨hP, Φ, F, h1⟩ := h
 exact ⟨hP, Φ, F.kept (fun j _ => hP j) hk (fun k hk i hi ht => by have := h1 k hk i hi; have := hT i ht; omega), h1⟩
theorem Gs.below (h : Gs n B P w) (hb : Below w.heap.size w w') : Gs n B P w' := by
 obtain ⟨hP, Φ, F, h1⟩ := h
 exact ⟨hP, Φ, F.below (fun j _ => hP j) hb, h1⟩
theorem Gs.join (h : Gs n B P w) (h' : Gs m C Q w') (hb : Below w.heap.size w w') (hC : w.heap.size ≤ C) (hB : B ≤ w.heap.size) : Gs (n + m) B (fun k => if k < n then P k else Q (k - n)) w' := by
 obtain ⟨hP, Φ, F, h1⟩ := h
 obtain ⟨hQ, Ψ, G, h2⟩ := h'
 have F' := F.below (fun j _ => hP j) hb
 refine ⟨fun j => ?_, fun k => if k < n then Φ k else Ψ (k - n), ⟨fun k hk => ?_, fun k hk i hi => ?_, fun j k hj hk hjk i hi hi2 => ?_⟩, fun k hk i hi => ?_⟩
 ·by_cases hj : j < n
  ·simp only [if_pos hj]; exact hP j
  ·simp only [if_neg hj]; exact hQ _
 ·by_cases hkn : k < n
  ·simp only [if_pos hkn]; exact F'.part k hkn
  ·simp only [if_neg hkn]; exact G.part _ (by omega)
 ·by_cases hkn : k < n
  ·simp only [if_pos hkn] at hi; exact F'.lt k hkn i hi
  ·simp only [if_neg hkn] at hi; exact G.lt _ (by omega) i hi
 ·by_cases hjn : j < n
  ·simp only [if_pos hjn] at hi
   by_cases hkn : k < n
   ·simp only [if_pos hkn] at hi2; exact F'.ap j k hjn hkn hjk i hi hi2
   ·simp only [if_neg hkn] at hi2
    have := F.lt j hjn i hi
    have := h2 _ (by omega) i hi2
    omega
  ·simp only [if_neg hjn] at hi
   by_cases hkn : k < n
   ·simp only [if_pos hkn] at hi2
    have := F.lt k hkn i hi2
    have := h2 _ (by omega) i hi
    omega
   ·simp only [if_neg hkn] at hi2
    exact G.ap _ _ (by omega) (by omega) (by omega) i hi hi2
 ·by_cases hkn : k < n
  ·simp only [if_pos hkn] at hi; exact h1 k hkn i hi
  ·simp only [if_neg hkn] at hi
   have := h2 _ (by omega) i hi
   omega
end
section
variable {w w' : World} {c : Nat → Int}
def ClkP (b : Nat) (n L : Int) : World → (Nat → Prop) → Prop := fun w S => ClockAt w b n L ∧ ∀ i, S i ↔ i = b
def LedP (b : Nat) (C : Int) : World → (Nat → Prop) → Prop := fun w S => LedAt w b 0 0 0 C ∧ ∀ i, S i ↔ i = b
def CurP (b : Nat) : World → (Nat → Prop) → Prop := fun w S => Cur w b 0 ∧ ∀ i, S i ↔ i = b
def MetP (b : Nat) : World → (Nat → Prop) → Prop := fun w S => (∃ Sp T D, MetAt w b 0 Sp T D ∧ Fits_13 0 Sp T D) ∧ ∀ i, S i ↔ i = b
def RegP (b cap : Nat) : World → (Nat → Prop) → Prop := fun w S => Reg w b S cap []
def BktP (b n : Nat) : World → (Nat → Prop) → Prop := fun w S => Ring w b S n []
def LnsP (b n : Nat) : World → (Nat → Prop) → Prop := fun w S => Ln w b S n [] []
theorem stays_met {b : Nat} : Stays (MetP b) := by
 refine ⟨fun w S h i hi => ?_, fun w w' S T h hk hT => ?_⟩
 ·obtain ⟨⟨Sp, T, D, h1, _⟩, h2⟩ := h
  rw [(h2 i).1 hi]; exact h1.lt
 ·obtain ⟨⟨Sp, T', D, h1, hf⟩, h2⟩ := h
  exact ⟨⟨Sp, T', D, h1.kept hk (hT _ ((h2 _).2 rfl)), hf⟩, h2⟩
theorem stays_reg {b n : Nat} : Stays (RegP b n) := ⟨fun w S h i hi => h.lt i hi, fun w w' S T h hk hT => h.kept hk hT⟩
theorem stays_bkt {b n : Nat} : Stays (BktP b n) := ⟨fun w S h i hi => h.lt i hi, fun w w' S T h hk hT => h.kept hk hT⟩
theorem stays_lns {b n : Nat} : Stays (LnsP b n) := ⟨fun w S h i hi => h.lt i hi, fun w w' S T h hk hT => h.kept hk hT⟩
structure Frm (w0 : World) (t : Nat) (cs : Array Value) (c : Nat → Int) (n : Nat) (P : Nat → World → (Nat → Prop) → Prop) (w : World) : Prop where
 cfg : Blk w w0.heap.size 30 (cellsOf c)
 out : Blk w (w0.heap.size + 1) t cs
 gs : Gs n (w0.heap.size + 2) P w
 below : Below w0.heap.size w0 w
 size : w0.heap.size + 2 ≤ w.heap.size
section
variable {w0 : World} {t n : Nat} {cs : Array Value} {P : Nat → World → (Nat → Prop) → Prop}
theorem Frm.start (w : World) (t : Nat) (cs : Array Value) (c : Nat → Int) : Frm w t cs c 0 noP ((w.alloc (.cells (cellsOf c) 30)).alloc (.cells cs t)) := by
 refine ⟨(Blk.new w _ _).alloc _, ?_, Gs.zero, ((Below.refl _ _).alloc (Nat.le_refl _) _).alloc (by simp) _, by simp⟩
 have := Blk.new (w.alloc (.cells (cellsOf c) 30)) t cs
 rwa [show (w.alloc (.cells (cellsOf c) 30)).heap.size = w.heap.size + 1 by simp] at this
theorem Frm.to (h : Frm w0 t cs c n P w) (hb : Below w.heap.size w w') : Frm w0 t cs c n P w' :=
 ⟨h.cfg.below hb h.cfg.lt, h.out.below hb h.out.lt, h.gs.below hb, h.below.trans (hb.mono h.below.size), Nat.le_trans h.size hb.size⟩
theorem Frm.more (h : Frm w0 t cs c n P w) {R : World → (Nat → Prop) → Prop} {S' : Nat → Prop} (hR : Stays R) (hr : R w' S') (hS : ∀ i, S' i → w.heap.size ≤ i) (hb : Below w.heap.size w w') : Frm w0 t cs c (n + 1) (xput P n R) w' :=
 ⟨h.cfg.below hb h.cfg.lt, h.out.below hb h.out.lt, h.gs.more hR hr hS hb h.size, h.below.trans (hb.mono h.below.size), Nat.le_trans h.size hb.size⟩
theorem Frm.done (h : Frm w0 t cs c n P w) (cs' : Array Value) : Gs n (w0.heap.size + 2) P (w.setRow (w0.heap.size + 1) cs') ∧ Below w0.heap.size w0 (w.setRow (w0.heap.size + 1) cs') := by
 have hk : Kept (fun i => i = w0.heap.size + 1) w (w.setRow (w0.heap.size + 1) cs') := Kept.setRow (S := fun i => i = w0.heap.size + 1) (Kept.refl _ _) (.inl rfl) _
 exact ⟨h.gs.kept hk fun i hi => by omega, Kept.below h.below hk (fun i hi => by omega) h.below.size⟩
end
theorem ptr_one1 (a : Nat) : (#[Value.pointer (some ⟨a, 0, none⟩)]).all (·.oneCell') = true := Array.all_eq_true_iff_forall_mem.2 fun u hu => by
 simp only [List.mem_toArray, List.mem_cons, List.not_mem_nil, or_false] at hu
 subst hu; rfl
theorem ptr_one3 (a b c : Nat) : (#[Value.pointer (some ⟨a, 0, none⟩), .pointer (some ⟨b, 0, none⟩), .pointer (some ⟨c, 0, none⟩)]).all (·.oneCell') = true := Array.all_eq_true_iff_forall_mem.2 fun u hu => by
 simp only [List.mem_toArray, List.mem_cons, List.not_mem_nil, or_false] at hu
 rcases hu with rfl | rfl | rfl <;> rfl
theorem nfo_times : (Tryz.prog.info? 81).map (·.size) = some 1 := by kernel_rfl
theorem nfo_stakes : (Tryz.prog.info? 87).map (·.size) = some 3 := by kernel_rfl
theorem nfo_exits : (Tryz.prog.info? 93).map (·.size) = some 3 := by kernel_rfl
theorem nfo_requests : (Tryz.prog.info? 99).map (·.size) = some 3 := by kernel_rfl
set_option maxHeartbeats 1600000 in
theorem new_times (w : World) (hL : 1 ≤ c 13) : Calls Tryz.prog 33 #[.agg (cellsOf c)] w fun e w' => ∃ b, e = .returned (.agg #[.pointer (some ⟨b, 0, none⟩)]) ∧ Gs 1 (w.heap.size + 2) (xput noP 0 (ClkP b 0 (c 13))) w' ∧ Below w.heap.size w w' := by
 have HL := Lib.hid hL
 clear hL
 have F0 := Frm.start w 81 #[.pointer none] c
 go_enter Tryz.func33, Tryz.ntmps33
 go_upto_region 1 with (fail)
 generalize (w.alloc (.cells (cellsOf c) 30)).alloc (.cells #[.pointer none] 81) = W at *
 have HF := Lib.hid F0
 obtain ⟨b, hb⟩ := named (w.heap.size)
 have HB := Lib.hid hb
 have y : W.cell? ⟨b, 13, none⟩ = some (.int .i64 (c 13)) := by rw [← hb]; exact F0.cfg.cell 13
 rw [hb]
 clear hb F0
 go_wp2_with fail
 refine (new_some (c 13) W HL.out).mono ?_
 rintro e w2 ⟨rfl, rfl⟩
 have F2 := HF.out.more stays_blk (R := ClkP W.heap.size 0 (c 13)) (S' := fun i => i = W.heap.size) (w' := W.alloc (.cells #[.int .i64 0, .int .i64 (c 13)] 184)) ⟨Blk.new _ _ _, fun i => Iff.rfl⟩ (fun i hi => by omega) ((Below.refl _ _).alloc (Nat.le_refl _) _)
 have HF2 := Lib.hid F2
 clear F2 HF y
 generalize W.heap.size = z at *
 generalize W.alloc (.cells #[.int .i64 0, .int .i64 (c 13)] 184) = w2 at *
 have HO : Hid (Blk w2 (b + 1) 81 #[.pointer none]) := Lib.hid (by have := HF2.out.out; rwa [HB.out] at this)
 go_wp2_with (first | (refine wsr (b + 1) #[.pointer (some ⟨z, 0, none⟩)] 81 HO.out nfo_times (ptr_one1 _) ?_))
 have hd := HF2.out.done #[.pointer (some ⟨z, 0, none⟩)]
 rw [HB.out] at hd
 have HD := Lib.hid hd
 clear hd
 exact bodyPost_ret (v := .agg #[.pointer (some ⟨z, 0, none⟩)]) (results_cell_row (fn := Tryz.f33) rfl _ _ (b + 1) 81 _ (0, 0) _ rfl (setRow_heap _ _ _ _ _ _ HO.out) Tryz.underlying81 rfl nfo_times) rfl ⟨z, rfl, by rw [HB.out]; exact HD.out.1, by rw [HB.out]; exact HD.out.2⟩
theorem mk_reg (w : World) (h1 : 1 ≤ c 0) (h2 : c 0 ≤ 4096) : Calls Tryz.prog 75 #[.int .i64 (c 0)] w fun e w' => ∃ b S, e = .returned (.pointer (some ⟨b, 0, none⟩)) ∧ RegP b (c 0).toNat w' S ∧ (∀ i, S i → w.heap.size ≤ i) ∧ Below w.heap.size w w' := by
 have := new_any_07 (c 0).toNat w (by omega) (by omega)
 rwa [show (((c 0).toNat : Nat) : Int) = c 0 by omega] at this
theorem mk_led (w : World) (h1 : 0 ≤ c 4) (h2 : c 4 ≤ 18446744073709551615) : Calls Tryz.prog 76 #[.int .u64 (c 4)] w fun e w' => ∃ b S, e = .returned (.pointer (some ⟨b, 0, none⟩)) ∧ LedP b (c 4) w' S ∧ (∀ i, S i → w.heap.size ≤ i) ∧ Below w.heap.size w w' :=
 (new_at (c 4) w h1 h2).mono fun e w' ⟨he, g1, _, g2, _⟩ => ⟨_, fun i => i = w.heap.size, he, ⟨g1, fun i => Iff.rfl⟩, fun i hi => by omega, g2⟩
theorem mk_cur (w : World) : Calls Tryz.prog 77 #[] w fun e w' => ∃ b S, e = .returned (.pointer (some ⟨b, 0, none⟩)) ∧ CurP b w' S ∧ (∀ i, S i → w.heap.size ≤ i) ∧ Below w.heap.size w w' :=
 (new_any_09 w).mono fun e w' ⟨b, he, g1, g2, g3⟩ => ⟨b, fun i => i = b, he, ⟨g2.out, fun i => Iff.rfl⟩, fun i hi => by omega, g3⟩
theorem mk_lns (w : World) (h1 : 1 ≤ c 1) (h2 : c 1 ≤ 4096) : Calls Tryz.prog 78 #[.int .i64 (c 1)] w fun e w' => ∃ b S, e = .returned (.pointer (some ⟨b, 0, none⟩)) ∧ LnsP b (c 1).toNat w' S ∧ (∀ i, S i → w.heap.size ≤ i) ∧ Below w.heap.size w w' := by
 have := new_some_12 (c 1).toNat w (by omega) (by omega)
 rw [show (((c 1).toNat : Nat) : Int) = c 1 by omega] at this
 exact this.mono fun e w' ⟨he, ⟨S, g1, g2⟩, g3⟩ => ⟨_, S, he, g1, g2, g3⟩
theorem mk_met (w : World) : Calls Tryz.prog 79 #[] w fun e w' => ∃ b S, e = .returned (.pointer (some ⟨b, 0, none⟩)) ∧ MetP b w' S ∧ (∀ i, S i → w.heap.size ≤ i) ∧ Below w.heap.size w w' :=
 (new_any_13 w).mono fun e w' ⟨he, g1⟩ => by
  subst g1
  exact ⟨_, fun i => i = w.heap.size, he, ⟨⟨0, 0, 0, Blk.new _ _ _, fits_zero⟩, fun i => Iff.rfl⟩, fun i hi => by omega, (Below.refl _ _).alloc (Nat.le_refl _) _⟩
theorem mk_bkt (w : World) (h1 : 1 ≤ c 12) (h2 : c 12 ≤ 4096) : Calls Tryz.prog 80 #[.int .i64 (c 12)] w fun e w' => ∃ b S, e = .returned (.pointer (some ⟨b, 0, none⟩)) ∧ BktP b (c 12).toNat w' S ∧ (∀ i, S i → w.heap.size ≤ i) ∧ Below w.heap.size w w' := by
 have := new_any_08 (c 12).toNat w (by omega) (by omega)
 rwa [show (((c 12).toNat : Nat) : Int) = c 12 by omega] at this
theorem ring_new {R E k b n : Nat} (h : Blk w b R #[.int .i64 n, .slice none 0 0, .int .i64 0, .int .i64 0]) (h1 : 1 ≤ n) (h2 : n ≤ 4096) : RingQ R E k b n 0 [] w fun i => i = b :=
 ⟨none, ⟨by simp, by simp, .inl ⟨rfl, rfl, h, h1, by omega⟩⟩, fun i => ⟨fun h => .inl h, fun h => by rcases h with h | h; exact h; cases h⟩⟩
theorem mk_int (w : World) (h1 : 1 ≤ c 1) (h2 : c 1 ≤ 4096) : Calls Tryz.prog 81 #[.int .i64 (c 1)] w fun e w' => ∃ b S, e = .returned (.pointer (some ⟨b, 0, none⟩)) ∧ RingQ 148 3 1 b (c 1).toNat 0 [] w' S ∧ (∀ i, S i → w.heap.size ≤ i) ∧ Below w.heap.size w w' := by
 have := ri_new_some (c 1).toNat w (by omega) (by omega)
 rw [show (((c 1).toNat : Nat) : Int) = c 1 by omega] at this
 refine this.mono fun e w' ⟨he, g1⟩ => ?_
 subst g1
 refine ⟨_, fun i => i = w.heap.size, he, ring_new ?_ (by omega) (by omega), fun i hi => by omega, (Below.refl _ _).alloc (Nat.le_refl _) _⟩
 rw [show (((c 1).toNat : Nat) : Int) = c 1 by omega]
 exact Blk.new _ _ _
theorem mk_duo (w : World) (h1 : 1 ≤ c 1) (h2 : c 1 ≤ 4096) : Calls Tryz.prog 82 #[.int .i64 (c 1)] w fun e w' => ∃ b S, e = .returned (.pointer (some ⟨b, 0, none⟩)) ∧ RingQ 151 116 2 b (c 1).toNat 0 [] w' S ∧ (∀ i, S i → w.heap.size ≤ i) ∧ Below w.heap.size w w' := by
 have := r2_new_some (c 1).toNat w (by omega) (by omega)
 rw [show (((c 1).toNat : Nat) : Int) = c 1 by omega] at this
 refine this.mono fun e w' ⟨he, g1⟩ => ?_
 subst g1
 refine ⟨_, fun i => i = w.heap.size, he, ring_new ?_ (by omega) (by omega), fun i hi => by omega, (Below.refl _ _).alloc (Nat.le_refl _) _⟩
 rw [show (((c 1).toNat : Nat) : Int) = c 1 by omega]
 exact Blk.new _ _ _
theorem mk_req (w : World) (h1 : 1 ≤ c 1) (h2 : c 1 ≤ 4096) : Calls Tryz.prog 83 #[.int .i64 (c 1)] w fun e w' => ∃ b S, e = .returned (.pointer (some ⟨b, 0, none⟩)) ∧ RingQ 154 119 2 b (c 1).toNat 0 [] w' S ∧ (∀ i, S i → w.heap.size ≤ i) ∧ Below w.heap.size w w' := by
 have := rq_new_some (c 1).toNat w (by omega) (by omega)
 rw [show (((c 1).toNat : Nat) : Int) = c 1 by omega] at this
 refine this.mono fun e w' ⟨he, g1⟩ => ?_
 subst g1
 refine ⟨_, fun i => i = w.heap.size, he, ring_new ?_ (by omega) (by omega), fun i hi => by omega, (Below.refl _ _).alloc (Nat.le_refl _) _⟩
 rw [show (((c 1).toNat : Nat) : Int) = c 1 by omega]
 exact Blk.new _ _ _
set_option maxHeartbeats 3200000 in
theorem new_stakes (w : World) (hL : 1 ≤ c 0 ∧ c 0 ≤ 4096 ∧ 0 ≤ c 4 ∧ c 4 ≤ 18446744073709551615) : Calls Tryz.prog 34 #[.agg (cellsOf c)] w fun e w' => ∃ r l k, e = .returned (.agg #[.pointer (some ⟨r, 0, none⟩), .pointer (some ⟨l, 0, none⟩), .pointer (some ⟨k, 0, none⟩)]) ∧ Gs 3 (w.heap.size + 2) (xput (xput (xput noP 0 (RegP r (c 0).toNat)) 1 (LedP l (c 4))) 2 (CurP k)) w' ∧ Below w.heap.size w w' := by
 have HL := Lib.hid hL
 clear hL
 have F0 := Frm.start w 87 #[.pointer none, .pointer none, .pointer none] c
 go_enter Tryz.func34, Tryz.ntmps34
 go_upto_region 1 with (fail)
 generalize (w.alloc (.cells (cellsOf c) 30)).alloc (.cells #[.pointer none, .pointer none, .pointer none] 87) = W at *
 have HF := Lib.hid F0
 obtain ⟨b, hb⟩ := named (w.heap.size)
 have HB := Lib.hid hb
 rw [hb]
 clear F0 hb
 have hcl : Blk W.drew b 30 (cellsOf c) := by rw [← HB.out]; exact HF.out.cfg
 refine wrW (fun w' => Blk w' b 30 (cellsOf c)) 5 [0, 1, 3, 4] (?_) ?_
 ·exact hcl
 simp only [List.filterMap_cons, List.filterMap_nil, List.getElem?_toArray, List.getElem?_cons_zero, List.getElem?_cons_succ]
 show wpQuiet _ _ _ _ [_, _, _, _] _
 iterate 1 (go_big_quiet_step ((intros; rfl)))
 refine qce _ ⟨b, 0, none⟩ (.int .i64 (c 0)) (fun w h => h.cell 0) ?_
 simp only [Act.put, List.setIfInBounds_toArray, List.set_cons_zero, List.set_cons_succ]
 iterate 1 (go_big_quiet_step ((intros; rfl)))
 refine qce _ ⟨b, 4, none⟩ (.int .u64 (c 4)) (fun w h => h.cell 4) ?_
 simp only [Act.put, List.setIfInBounds_toArray, List.set_cons_zero, List.set_cons_succ]
 refine wpQuiet_nil ?_
 have F1 := Lib.hid (HF.out.to ((Below.refl _ _).drew))
 clear HF hcl
 generalize W.drew = W1 at *
 refine hfO (i := 2) ?_
 refine wcA #[.int .i64 (c 0)] Tryz.call75 ((mk_reg W1 HL.out.1 HL.out.2.1).mono ?_)
 rintro e w2 ⟨r, S0, rfl, hR0, hS0, hb0⟩
 have F2 := Lib.hid (F1.out.more (R := RegP r (c 0).toNat) stays_reg hR0 hS0 hb0)
 have hcl : Blk w2 b 30 (cellsOf c) := by rw [← HB.out]; exact F2.out.cfg
 refine ⟨_, rfl, hcl, ?_⟩
 clear F1 hR0 hS0 hb0
 refine hfO (i := 5) ?_
 try simp only [Act.put, List.getElem_toArray, List.getElem_cons_zero, List.getElem_cons_succ, List.setIfInBounds_toArray, List.set_cons_zero, List.set_cons_succ, List.drop_succ_cons, List.drop_zero]
 refine wcA #[.int .u64 (c 4)] Tryz.call76 ((mk_led w2 HL.out.2.2.1 HL.out.2.2.2).mono ?_)
 rintro e w3 ⟨l, S1, rfl, hR1, hS1, hb1⟩
 have F3 := Lib.hid (F2.out.more (R := LedP l (c 4)) stays_blk hR1 hS1 hb1)
 have hcl : Blk w3 b 30 (cellsOf c) := by rw [← HB.out]; exact F3.out.cfg
 refine ⟨_, rfl, hcl, ?_⟩
 clear F2 hR1 hS1 hb1
 refine hfO (i := 6) ?_
 try simp only [Act.put, List.getElem_toArray, List.getElem_cons_zero, List.getElem_cons_succ, List.setIfInBounds_toArray, List.set_cons_zero, List.set_cons_succ, List.drop_succ_cons, List.drop_zero]
 refine wcA #[] Tryz.call77 ((mk_cur w3).mono ?_)
 rintro e w4 ⟨k, S2, rfl, hR2, hS2, hb2⟩
 have F4 := Lib.hid (F3.out.more (R := CurP k) stays_blk hR2 hS2 hb2)
 have hcl : Blk w4 b 30 (cellsOf c) := by rw [← HB.out]; exact F4.out.cfg
 refine ⟨_, rfl, hcl, ?_⟩
 clear F3 hR2 hS2 hb2
 try simp only [Act.put, List.getElem_toArray, List.getElem_cons_zero, List.getElem_cons_succ, List.setIfInBounds_toArray, List.set_cons_zero, List.set_cons_succ, List.drop_succ_cons, List.drop_zero]
 refine hfW (fun w' => Blk w' b 30 (cellsOf c)) (m := 2) (f := 1) [7] (?_) ?_
 ·exact hcl
 simp only [List.filterMap_cons, List.filterMap_nil, List.getElem?_toArray, List.getElem?_cons_zero, List.getElem?_cons_succ]
 show wpQuiet _ _ _ _ [_] _
 iterate 1 (go_big_quiet_step ((intros; rfl)))
 refine wpQuiet_nil ?_
 have HO : Hid (Blk w4 (b + 1) 87 _) := Lib.hid (by have := F4.out.out; rwa [HB.out] at this)
 refine hfO (i := 8) ?_
 refine wpOp_at rfl rfl (wp_store_row _ _ _ rfl (b + 1) #[.pointer (some ⟨r, 0, none⟩), .pointer (some ⟨l, 0, none⟩), .pointer (some ⟨k, 0, none⟩)] rfl rfl 87 _ HO.out nfo_stakes rfl (ptr_one3 _ _ _) ?_)
 have hd := F4.out.done #[.pointer (some ⟨r, 0, none⟩), .pointer (some ⟨l, 0, none⟩), .pointer (some ⟨k, 0, none⟩)]
 rw [HB.out] at hd
 refine ⟨hcl.kept (Kept.setRow (S := fun i => i = b + 1) (Kept.refl _ _) (.inl rfl) _) (by omega), ?_⟩
 have HD := Lib.hid hd
 clear hd hcl
 refine ⟨by kernel_rfl, NoPanic.normal ?_⟩
 try simp only [Act.put, List.getElem_toArray, List.getElem_cons_zero, List.getElem_cons_succ, List.setIfInBounds_toArray, List.set_cons_zero, List.set_cons_succ, List.drop_succ_cons, List.drop_zero]
 go_wp2_with fail
 exact bodyPost_ret (v := .agg #[.pointer (some ⟨r, 0, none⟩), .pointer (some ⟨l, 0, none⟩), .pointer (some ⟨k, 0, none⟩)]) (results_cell_row (fn := Tryz.f34) rfl _ _ (b + 1) 87 _ (0, 0) _ rfl (setRow_heap _ _ _ _ _ _ HO.out) Tryz.underlying87 rfl nfo_stakes) rfl ⟨r, l, k, rfl, by rw [HB.out]; exact HD.out.1, by rw [HB.out]; exact HD.out.2⟩
set_option maxHeartbeats 3200000 in
theorem new_exits (w : World) (hL : 1 ≤ c 1 ∧ c 1 ≤ 4096 ∧ 1 ≤ c 12 ∧ c 12 ≤ 4096) : Calls Tryz.prog 35 #[.agg (cellsOf c)] w fun e w' => ∃ n m u, e = .returned (.agg #[.pointer (some ⟨n, 0, none⟩), .pointer (some ⟨m, 0, none⟩), .pointer (some ⟨u, 0, none⟩)]) ∧ Gs 3 (w.heap.size + 2) (xput (xput (xput noP 0 (LnsP n (c 1).toNat)) 1 (MetP m)) 2 (BktP u (c 12).toNat)) w' ∧ Below w.heap.size w w' := by
 have HL := Lib.hid hL
 clear hL
 have F0 := Frm.start w 93 #[.pointer none, .pointer none, .pointer none] c
 go_enter Tryz.func35, Tryz.ntmps35
 go_upto_region 1 with (fail)
 generalize (w.alloc (.cells (cellsOf c) 30)).alloc (.cells #[.pointer none, .pointer none, .pointer none] 93) = W at *
 have HF := Lib.hid F0
 obtain ⟨b, hb⟩ := named (w.heap.size)
 have HB := Lib.hid hb
 rw [hb]
 clear F0 hb
 have hcl : Blk W.drew b 30 (cellsOf c) := by rw [← HB.out]; exact HF.out.cfg
 refine wrW (fun w' => Blk w' b 30 (cellsOf c)) 5 [0, 1, 4, 5] (?_) ?_
 ·exact hcl
 simp only [List.filterMap_cons, List.filterMap_nil, List.getElem?_toArray, List.getElem?_cons_zero, List.getElem?_cons_succ]
 show wpQuiet _ _ _ _ [_, _, _, _] _
 iterate 1 (go_big_quiet_step ((intros; rfl)))
 refine qce _ ⟨b, 1, none⟩ (.int .i64 (c 1)) (fun w h => h.cell 1) ?_
 simp only [Act.put, List.setIfInBounds_toArray, List.set_cons_zero, List.set_cons_succ]
 iterate 1 (go_big_quiet_step ((intros; rfl)))
 refine qce _ ⟨b, 12, none⟩ (.int .i64 (c 12)) (fun w h => h.cell 12) ?_
 simp only [Act.put, List.setIfInBounds_toArray, List.set_cons_zero, List.set_cons_succ]
 refine wpQuiet_nil ?_
 have F1 := Lib.hid (HF.out.to ((Below.refl _ _).drew))
 clear HF hcl
 generalize W.drew = W1 at *
 refine hfO (i := 2) ?_
 refine wcA #[.int .i64 (c 1)] Tryz.call78 ((mk_lns W1 HL.out.1 HL.out.2.1).mono ?_)
 rintro e w2 ⟨n, S0, rfl, hR0, hS0, hb0⟩
 have F2 := Lib.hid (F1.out.more (R := LnsP n (c 1).toNat) stays_lns hR0 hS0 hb0)
 have hcl : Blk w2 b 30 (cellsOf c) := by rw [← HB.out]; exact F2.out.cfg
 refine ⟨_, rfl, hcl, ?_⟩
 clear F1 hR0 hS0 hb0
 refine hfO (i := 3) ?_
 try simp only [Act.put, List.getElem_toArray, List.getElem_cons_zero, List.getElem_cons_succ, List.setIfInBounds_toArray, List.set_cons_zero, List.set_cons_succ, List.drop_succ_cons, List.drop_zero]
 refine wcA #[] Tryz.call79 ((mk_met w2).mono ?_)
 rintro e w3 ⟨m, S1, rfl, hR1, hS1, hb1⟩
 have F3 := Lib.hid (F2.out.more (R := MetP m) stays_met hR1 hS1 hb1)
 have hcl : Blk w3 b 30 (cellsOf c) := by rw [← HB.out]; exact F3.out.cfg
 refine ⟨_, rfl, hcl, ?_⟩
 clear F2 hR1 hS1 hb1
 refine hfO (i := 6) ?_
 try simp only [Act.put, List.getElem_toArray, List.getElem_cons_zero, List.getElem_cons_succ, List.setIfInBounds_toArray, List.set_cons_zero, List.set_cons_succ, List.drop_succ_cons, List.drop_zero]
 refine wcA #[.int .i64 (c 12)] Tryz.call80 ((mk_bkt w3 HL.out.2.2.1 HL.out.2.2.2).mono ?_)
 rintro e w4 ⟨u, S2, rfl, hR2, hS2, hb2⟩
 have F4 := Lib.hid (F3.out.more (R := BktP u (c 12).toNat) stays_bkt hR2 hS2 hb2)
 have hcl : Blk w4 b 30 (cellsOf c) := by rw [← HB.out]; exact F4.out.cfg
 refine ⟨_, rfl, hcl, ?_⟩
 clear F3 hR2 hS2 hb2
 try simp only [Act.put, List.getElem_toArray, List.getElem_cons_zero, List.getElem_cons_succ, List.setIfInBounds_toArray, List.set_cons_zero, List.set_cons_succ, List.drop_succ_cons, List.drop_zero]
 refine hfW (fun w' => Blk w' b 30 (cellsOf c)) (m := 2) (f := 1) [7] (?_) ?_
 ·exact hcl
 simp only [List.filterMap_cons, List.filterMap_nil, List.getElem?_toArray, List.getElem?_cons_zero, List.getElem?_cons_succ]
 show wpQuiet _ _ _ _ [_] _
 iterate 1 (go_big_quiet_step ((intros; rfl)))
 refine wpQuiet_nil ?_
 have HO : Hid (Blk w4 (b + 1) 93 _) := Lib.hid (by have := F4.out.out; rwa [HB.out] at this)
 refine hfO (i := 8) ?_
 refine wpOp_at rfl rfl (wp_store_row _ _ _ rfl (b + 1) #[.pointer (some ⟨n, 0, none⟩), .pointer (some ⟨m, 0, none⟩), .pointer (some ⟨u, 0, none⟩)] rfl rfl 93 _ HO.out nfo_exits rfl (ptr_one3 _ _ _) ?_)
 have hd := F4.out.done #[.pointer (some ⟨n, 0, none⟩), .pointer (some ⟨m, 0, none⟩), .pointer (some ⟨u, 0, none⟩)]
 rw [HB.out] at hd
 refine ⟨hcl.kept (Kept.setRow (S := fun i => i = b + 1) (Kept.refl _ _) (.inl rfl) _) (by omega), ?_⟩
 have HD := Lib.hid hd
 clear hd hcl
 refine ⟨by kernel_rfl, NoPanic.normal ?_⟩
 try simp only [Act.put, List.getElem_toArray, List.getElem_cons_zero, List.getElem_cons_succ, List.setIfInBounds_toArray, List.set_cons_zero, List.set_cons_succ, List.drop_succ_cons, List.drop_zero]
 go_wp2_with fail
 exact bodyPost_ret (v := .agg #[.pointer (some ⟨n, 0, none⟩), .pointer (some ⟨m, 0, none⟩), .pointer (some ⟨u, 0, none⟩)]) (results_cell_row (fn := Tryz.f35) rfl _ _ (b + 1) 93 _ (0, 0) _ rfl (setRow_heap _ _ _ _ _ _ HO.out) Tryz.underlying93 rfl nfo_exits) rfl ⟨n, m, u, rfl, by rw [HB.out]; exact HD.out.1, by rw [HB.out]; exact HD.out.2⟩
set_option maxHeartbeats 3200000 in
theorem new_requests (w : World) (hL : 1 ≤ c 1 ∧ c 1 ≤ 4096) : Calls Tryz.prog 36 #[.agg (cellsOf c)] w fun e w' => ∃ p d q, e = .returned (.agg #[.pointer (some ⟨p, 0, none⟩), .pointer (some ⟨d, 0, none⟩), .pointer (some ⟨q, 0, none⟩)]) ∧ Gs 3 (w.heap.size + 2) (xput (xput (xput noP 0 (RingQ 148 3 1 p (c 1).toNat 0 [])) 1 (RingQ 151 116 2 d (c 1).toNat 0 [])) 2 (RingQ 154 119 2 q (c 1).toNat 0 [])) w' ∧ Below w.heap.size w w' := by
 have HL := Lib.hid hL
 clear hL
 have F0 := Frm.start w 99 #[.pointer none, .pointer none, .pointer none] c
 go_enter Tryz.func36, Tryz.ntmps36
 go_upto_region 1 with (fail)
 generalize (w.alloc (.cells (cellsOf c) 30)).alloc (.cells #[.pointer none, .pointer none, .pointer none] 99) = W at *
 have HF := Lib.hid F0
 obtain ⟨b, hb⟩ := named (w.heap.size)
 have HB := Lib.hid hb
 rw [hb]
 clear F0 hb
 have hcl : Blk W.drew b 30 (cellsOf c) := by rw [← HB.out]; exact HF.out.cfg
 refine wrW (fun w' => Blk w' b 30 (cellsOf c)) 5 [0, 1, 3, 4, 6, 7] (?_) ?_
 ·exact hcl
 simp only [List.filterMap_cons, List.filterMap_nil, List.getElem?_toArray, List.getElem?_cons_zero, List.getElem?_cons_succ]
 show wpQuiet _ _ _ _ [_, _, _, _, _, _] _
 iterate 1 (go_big_quiet_step ((intros; rfl)))
 refine qce _ ⟨b, 1, none⟩ (.int .i64 (c 1)) (fun w h => h.cell 1) ?_
 simp only [Act.put, List.setIfInBounds_toArray, List.set_cons_zero, List.set_cons_succ]
 iterate 1 (go_big_quiet_step ((intros; rfl)))
 refine qce _ ⟨b, 1, none⟩ (.int .i64 (c 1)) (fun w h => h.cell 1) ?_
 simp only [Act.put, List.setIfInBounds_toArray, List.set_cons_zero, List.set_cons_succ]
 iterate 1 (go_big_quiet_step ((intros; rfl)))
 refine qce _ ⟨b, 1, none⟩ (.int .i64 (c 1)) (fun w h => h.cell 1) ?_
 simp only [Act.put, List.setIfInBounds_toArray, List.set_cons_zero, List.set_cons_succ]
 refine wpQuiet_nil ?_
 have F1 := Lib.hid (HF.out.to ((Below.refl _ _).drew))
 clear HF hcl
 generalize W.drew = W1 at *
 refine hfO (i := 2) ?_
 refine wcA #[.int .i64 (c 1)] Tryz.call81 ((mk_int W1 HL.out.1 HL.out.2).mono ?_)
 rintro e w2 ⟨p, S0, rfl, hR0, hS0, hb0⟩
 have F2 := Lib.hid (F1.out.more (R := RingQ 148 3 1 p (c 1).toNat 0 []) stays_ring hR0 hS0 hb0)
 have hcl : Blk w2 b 30 (cellsOf c) := by rw [← HB.out]; exact F2.out.cfg
 refine ⟨_, rfl, hcl, ?_⟩
 clear F1 hR0 hS0 hb0
 refine hfO (i := 5) ?_
 try simp only [Act.put, List.getElem_toArray, List.getElem_cons_zero, List.getElem_cons_succ, List.setIfInBounds_toArray, List.set_cons_zero, List.set_cons_succ, List.drop_succ_cons, List.drop_zero]
 refine wcA #[.int .i64 (c 1)] Tryz.call82 ((mk_duo w2 HL.out.1 HL.out.2).mono ?_)
 rintro e w3 ⟨d, S1, rfl, hR1, hS1, hb1⟩
 have F3 := Lib.hid (F2.out.more (R := RingQ 151 116 2 d (c 1).toNat 0 []) stays_ring hR1 hS1 hb1)
 have hcl : Blk w3 b 30 (cellsOf c) := by rw [← HB.out]; exact F3.out.cfg
 refine ⟨_, rfl, hcl, ?_⟩
 clear F2 hR1 hS1 hb1
 refine hfO (i := 8) ?_
 try simp only [Act.put, List.getElem_toArray, List.getElem_cons_zero, List.getElem_cons_succ, List.setIfInBounds_toArray, List.set_cons_zero, List.set_cons_succ, List.drop_succ_cons, List.drop_zero]
 refine wcA #[.int .i64 (c 1)] Tryz.call83 ((mk_req w3 HL.out.1 HL.out.2).mono ?_)
 rintro e w4 ⟨q, S2, rfl, hR2, hS2, hb2⟩
 have F4 := Lib.hid (F3.out.more (R := RingQ 154 119 2 q (c 1).toNat 0 []) stays_ring hR2 hS2 hb2)
 have hcl : Blk w4 b 30 (cellsOf c) := by rw [← HB.out]; exact F4.out.cfg
 refine ⟨_, rfl, hcl, ?_⟩
 clear F3 hR2 hS2 hb2
 try simp only [Act.put, List.getElem_toArray, List.getElem_cons_zero, List.getElem_cons_succ, List.setIfInBounds_toArray, List.set_cons_zero, List.set_cons_succ, List.drop_succ_cons, List.drop_zero]
 refine hfW (fun w' => Blk w' b 30 (cellsOf c)) (m := 2) (f := 1) [9] (?_) ?_
 ·exact hcl
 simp only [List.filterMap_cons, List.filterMap_nil, List.getElem?_toArray, List.getElem?_cons_zero, List.getElem?_cons_succ]
 show wpQuiet _ _ _ _ [_] _
 iterate 1 (go_big_quiet_step ((intros; rfl)))
 refine wpQuiet_nil ?_
 have HO : Hid (Blk w4 (b + 1) 99 _) := Lib.hid (by have := F4.out.out; rwa [HB.out] at this)
 refine hfO (i := 10) ?_
 refine wpOp_at rfl rfl (wp_store_row _ _ _ rfl (b + 1) #[.pointer (some ⟨p, 0, none⟩), .pointer (some ⟨d, 0, none⟩), .pointer (some ⟨q, 0, none⟩)] rfl rfl 99 _ HO.out nfo_requests rfl (ptr_one3 _ _ _) ?_)
 have hd := F4.out.done #[.pointer (some ⟨p, 0, none⟩), .pointer (some ⟨d, 0, none⟩), .pointer (some ⟨q, 0, none⟩)]
 rw [HB.out] at hd
 refine ⟨hcl.kept (Kept.setRow (S := fun i => i = b + 1) (Kept.refl _ _) (.inl rfl) _) (by omega), ?_⟩
 have HD := Lib.hid hd
 clear hd hcl
 refine ⟨by kernel_rfl, NoPanic.normal ?_⟩
 try simp only [Act.put, List.getElem_toArray, List.getElem_cons_zero, List.getElem_cons_succ, List.setIfInBounds_toArray, List.set_cons_zero, List.set_cons_succ, List.drop_succ_cons, List.drop_zero]
 go_wp2_with fail
 exact bodyPost_ret (v := .agg #[.pointer (some ⟨p, 0, none⟩), .pointer (some ⟨d, 0, none⟩), .pointer (some ⟨q, 0, none⟩)]) (results_cell_row (fn := Tryz.f36) rfl _ _ (b + 1) 99 _ (0, 0) _ rfl (setRow_heap _ _ _ _ _ _ HO.out) Tryz.underlying99 rfl nfo_requests) rfl ⟨p, d, q, rfl, by rw [HB.out]; exact HD.out.1, by rw [HB.out]; exact HD.out.2⟩
end
end
section
open Go Go.RowKit Go.Deep
set_option maxRecDepth 100000
theorem run_box (P : Program) (t : TypeId) (cs : Array Value) (w : World) : (Instr.box t (.agg cs)).run P w = .ok (.pointer (some ⟨w.heap.size, 0, none⟩)) (w.alloc (.cells cs t)) := by
 simp [Instr.box, newRow, go_sem, Value.cells]
theorem wp_box_at {P : Program} {o : Oper} {a : Act} {w : World} {K : Act → World → Prop} {Q : Exit → Act → World → Prop} {t : TypeId} {x : Operand} (ho : o.op = .box t x) (cs : Array Value) (hx : a.eval x = .agg cs)
  (h : K (a.put o.dst (.pointer (some ⟨w.heap.size, 0, none⟩))) (w.alloc (.cells cs t))) : o.wp P a w K Q := by
 unfold Oper.wp execOp
 simp only [ho, hx, Sem.run_bind, run_box, Result.andThen_ok, Sem.run_pure]
 exact h
theorem q_built {P : Program} {ops : Array Oper} {C : World → Prop} {Qa : Act → Prop} {op : Oper} {rest : List Oper} {a : Act} (t : TypeId) (parts : Array (Nat × Operand)) (hw : Region.wanted op (yielded ops a.tmps) = true) (ho : op.op = .build t parts) (cs : Array Value) (hf : P.built t (parts.map fun (i, x) => (i, a.eval x)).toList = some cs) (h : wpQuiet P ops C Qa rest (a.put op.dst (.agg cs))) : wpQuiet P ops C Qa (op :: rest) a := by
 refine q_val (.agg cs) hw (fun w => ?_) h
 have e := run_build (P := P) w t (parts.map fun (i, x) => (i, a.eval x)) _ hf
 unfold execOp
 rw [ho]
 show ((Instr.build t (parts.map fun (i, x) => (i, a.eval x))) >>= fun r => pure (Next.value r)).run P w = _
 simp only [Sem.run_bind, e, Result.andThen_ok, Sem.run_pure]
theorem valid_any (c : Nat → Int) (w : World) : CallB 32 #[.agg (cellsOf c)] w (.bool (chk c == 0)) := by
 have B0 : Blk (w.alloc (.cells (cellsOf c) 30)) w.heap.size 30 (cellsOf c) := Blk.new _ _ _
 have b1 : Below w.heap.size w (w.alloc (.cells (cellsOf c) 30)) := (Below.refl _ _).alloc (Nat.le_refl _) _
 have H := Lib.hid (fun W => check_any c W)
 generalize chk c = k at H ⊢
 go_enter Tryz.func32, Tryz.ntmps32
 go_upto_region 1 with (fail)
 have HB := Lib.hid B0
 have Hb := Lib.hid b1
 clear B0 b1
 generalize w.alloc (.cells (cellsOf c) 30) = W at *
 go_wp2_with (first | (refine wlr 30 w.heap.size HB.out Tryz.underlying30 info24 ?_))
 refine (H.out W).mono ?_
 rintro e w2 ⟨rfl, b2⟩
 have H2 := Lib.hid (Hb.out.trans (b2.mono Hb.out.size))
 clear Hb b2 HB
 go_wp2_with fail
 go_ret
 exact ⟨rfl, H2.out⟩
section
variable {w : World} {c : Nat → Int}
def mkF : Nat → Nat
 | 0 => 0 | 1 => 2 | 2 => 1 | 3 => 6 | 4 => 3 | 5 => 5 | 6 => 4 | 7 => 7 | 8 => 8 | 9 => 9 | 10 => 10 | k => k
theorem made_eg {B : Nat} {P : Nat → World → (Nat → Prop) → Prop} {w0 w' : World} {a : Pl} {q : Ql} {Z : Nat → World → (Nat → Prop) → Prop} (h : Gs 11 B P w') (hb : Below w0.heap.size w0 w') (hB : w0.heap.size ≤ B)
  (hP : ∀ k, k < 11 → Pt c a (XE c a q [] [] (fun _ _ _ => False)) sg0 [] k = P (mkF k)) : Eg 11 ⟨fun _ => False, w0⟩ w' c a q Z sg0 [] := by
 obtain ⟨_, Φ, F, h1⟩ := h
 refine ⟨fun _ _ _ => False, fun k hk => ⟨fun w S h => h.elim, fun w w' S T h => h.elim⟩, fun k h1 h2 => by omega, Nat.le_refl _, fun k => Φ (mkF k), F.remap mkF (fun k hk => ?_) (fun j k hj hk e => ?_) hP, fun k hk i hi => .inr ?_, Kept.of_below hb⟩
 ·have : k = 0 ∨ k = 1 ∨ k = 2 ∨ k = 3 ∨ k = 4 ∨ k = 5 ∨ k = 6 ∨ k = 7 ∨ k = 8 ∨ k = 9 ∨ k = 10 := by omega
  rcases this with rfl | rfl | rfl | rfl | rfl | rfl | rfl | rfl | rfl | rfl | rfl <;> decide
 ·have h1 : j = 0 ∨ j = 1 ∨ j = 2 ∨ j = 3 ∨ j = 4 ∨ j = 5 ∨ j = 6 ∨ j = 7 ∨ j = 8 ∨ j = 9 ∨ j = 10 := by omega
  have h2 : k = 0 ∨ k = 1 ∨ k = 2 ∨ k = 3 ∨ k = 4 ∨ k = 5 ∨ k = 6 ∨ k = 7 ∨ k = 8 ∨ k = 9 ∨ k = 10 := by omega
  rcases h1 with rfl | rfl | rfl | rfl | rfl | rfl | rfl | rfl | rfl | rfl | rfl <;> rcases h2 with rfl | rfl | rfl | rfl | rfl | rfl | rfl | rfl | rfl | rfl | rfl <;> first | rfl | (simp [mkF] at e)
 ·have : mkF k < 11 := by
   have : k = 0 ∨ k = 1 ∨ k = 2 ∨ k = 3 ∨ k = 4 ∨ k = 5 ∨ k = 6 ∨ k = 7 ∨ k = 8 ∨ k = 9 ∨ k = 10 := by omega
   rcases this with rfl | rfl | rfl | rfl | rfl | rfl | rfl | rfl | rfl | rfl | rfl <;> decide
  exact Nat.le_trans hB (h1 _ this i hi)
set_option maxHeartbeats 6400000 in
theorem enew (w : World) (hg : GE c) (h : chk c = 0) : Calls Tryz.prog 18 #[.agg (cellsOf c)] w fun e w' => ∃ a q, e = .returned (.tuple #[.pointer (some ⟨q.e, 0, none⟩), .int .i64 0]) ∧ ∀ Z, Eg 11 ⟨fun _ => False, w⟩ w' c a q Z sg0 [] := by
 have B0 : Blk (w.alloc (.cells (cellsOf c) 30)) w.heap.size 30 (cellsOf c) := Blk.new _ _ _
 have b1 : Below w.heap.size w (w.alloc (.cells (cellsOf c) 30)) := (Below.refl _ _).alloc (Nat.le_refl _) _
 have hk : (chk c == 0) = true := by simpa using h
 have G := Lib.hid hg
 go_enter Tryz.func18, Tryz.ntmps18
 go_upto_region 1 with (fail)
 have HB := Lib.hid B0
 have Hb := Lib.hid b1
 have HK := Lib.hid hk
 clear B0 b1 hk h hg
 generalize w.alloc (.cells (cellsOf c) 30) = W at *
 obtain ⟨b, hb⟩ := named (w.heap.size)
 have HH := Lib.hid hb
 rw [hb] at HB ⊢
 clear hb
 go_wp2_with (first | (refine wlr 30 b HB.out Tryz.underlying30 info24 ?_))
 refine (valid_any c W).mono ?_
 rintro e w2 ⟨rfl, b2⟩
 rw [HK.out]
 have H2 := Lib.hid (And.intro (HB.out.below b2 HB.out.lt) (Hb.out.trans (b2.mono Hb.out.size)))
 clear Hb b2 HB HK
 go_wp2_with fail
 refine wrW (fun w' => Blk w' b 30 (cellsOf c)) 8 [0, 1, 3, 5, 7] (?_) ?_
 ·exact H2.out.1.drew
 simp only [List.filterMap_cons, List.filterMap_nil, List.getElem?_toArray, List.getElem?_cons_zero, List.getElem?_cons_succ]
 show wpQuiet _ _ _ _ [_, _, _, _, _] _
 refine q_load 30 _ b 30 (cellsOf c) _ rfl rfl rfl (fun w h => h) Tryz.underlying30 rfl info24 ?_
 simp only [Act.put, List.setIfInBounds_toArray, List.set_cons_zero, List.set_cons_succ]
 refine q_load 30 _ b 30 (cellsOf c) _ rfl rfl rfl (fun w h => h) Tryz.underlying30 rfl info24 ?_
 simp only [Act.put, List.setIfInBounds_toArray, List.set_cons_zero, List.set_cons_succ]
 refine q_load 30 _ b 30 (cellsOf c) _ rfl rfl rfl (fun w h => h) Tryz.underlying30 rfl info24 ?_
 simp only [Act.put, List.setIfInBounds_toArray, List.set_cons_zero, List.set_cons_succ]
 refine q_load 30 _ b 30 (cellsOf c) _ rfl rfl rfl (fun w h => h) Tryz.underlying30 rfl info24 ?_
 simp only [Act.put, List.setIfInBounds_toArray, List.set_cons_zero, List.set_cons_succ]
 refine q_load 30 _ b 30 (cellsOf c) _ rfl rfl rfl (fun w h => h) Tryz.underlying30 rfl info24 ?_
 simp only [Act.put, List.setIfInBounds_toArray, List.set_cons_zero, List.set_cons_succ]
 refine wpQuiet_nil ?_
 have H3 := Lib.hid (show Blk w2.drew b 30 (cellsOf c) ∧ Below w.heap.size w w2.drew from ⟨H2.out.1.drew, H2.out.2.drew⟩)
 clear H2
 generalize w2.drew = W3 at *
 have G0 := Lib.hid (Gs.zero (B := W3.heap.size) (w := W3))
 have HW3 := Lib.hid H3.out.2.size
 refine hfO (i := 2) ?_
 refine wcA #[.agg (cellsOf c)] Tryz.call33 ((new_times W3 G.out.g.len0).mono ?_)
 rintro e w4 ⟨kc, rfl, g4, b4⟩
 have G4 := Lib.hid (G0.out.join g4 b4 (by omega) (Nat.le_refl _))
 have H4 := Lib.hid (And.intro (H3.out.1.below b4 H3.out.1.lt) (And.intro (H3.out.2.trans (b4.mono H3.out.2.size)) b4))
 refine ⟨_, rfl, H4.out.1, ?_⟩
 clear G0 g4 b4 H3
 refine hfO (i := 4) ?_
 try simp only [Act.put, List.getElem_toArray, List.getElem_cons_zero, List.getElem_cons_succ, List.setIfInBounds_toArray, List.set_cons_zero, List.set_cons_succ, List.drop_succ_cons, List.drop_zero]
 refine wcA #[.agg (cellsOf c)] Tryz.call34 ((new_stakes w4 ⟨G.out.g.cap0, G.out.g.cap1, by have := G.out.a2; have := G.out.a23; have := G.out.a3; omega, by have := G.out.a4; omega⟩).mono ?_)
 rintro e w5 ⟨kr, kl, kk, rfl, g5, b5⟩
 have G5 := Lib.hid (G4.out.join g5 b5 (by omega) H4.out.2.2.size)
 have H5 := Lib.hid (And.intro (H4.out.1.below b5 H4.out.1.lt) (And.intro (H4.out.2.1.trans (b5.mono H4.out.2.1.size)) (Nat.le_trans H4.out.2.2.size b5.size)))
 refine ⟨_, rfl, H5.out.1, ?_⟩
 clear G4 g5 b5 H4
 refine hfO (i := 6) ?_
 try simp only [Act.put, List.getElem_toArray, List.getElem_cons_zero, List.getElem_cons_succ, List.setIfInBounds_toArray, List.set_cons_zero, List.set_cons_succ, List.drop_succ_cons, List.drop_zero]
 refine wcA #[.agg (cellsOf c)] Tryz.call35 ((new_exits w5 ⟨G.out.q0, G.out.q1, G.out.r0, G.out.r1⟩).mono ?_)
 rintro e w6 ⟨kn, km, ku, rfl, g6, b6⟩
 have G6 := Lib.hid (G5.out.join g6 b6 (by omega) H5.out.2.2)
 have H6 := Lib.hid (And.intro (H5.out.1.below b6 H5.out.1.lt) (And.intro (H5.out.2.1.trans (b6.mono H5.out.2.1.size)) (Nat.le_trans H5.out.2.2 b6.size)))
 refine ⟨_, rfl, H6.out.1, ?_⟩
 clear G5 g6 b6 H5
 refine hfO (i := 8) ?_
 try simp only [Act.put, List.getElem_toArray, List.getElem_cons_zero, List.getElem_cons_succ, List.setIfInBounds_toArray, List.set_cons_zero, List.set_cons_succ, List.drop_succ_cons, List.drop_zero]
 refine wcA #[.agg (cellsOf c)] Tryz.call36 ((new_requests w6 ⟨G.out.q0, G.out.q1⟩).mono ?_)
 rintro e w7 ⟨kp, kd, kq, rfl, g7, b7⟩
 have G7 := Lib.hid (G6.out.join g7 b7 (by omega) H6.out.2.2)
 have H7 := Lib.hid (And.intro (H6.out.1.below b7 H6.out.1.lt) (And.intro (H6.out.2.1.trans (b7.mono H6.out.2.1.size)) (Nat.le_trans H6.out.2.2 b7.size)))
 refine ⟨_, rfl, H7.out.1, ?_⟩
 clear G6 g7 b7 H6
 try simp only [Act.put, List.getElem_toArray, List.getElem_cons_zero, List.getElem_cons_succ, List.setIfInBounds_toArray, List.set_cons_zero, List.set_cons_succ, List.drop_succ_cons, List.drop_zero]
 refine hfW (fun w' => Blk w' b 30 (cellsOf c)) (m := 4) (f := 3) [9] (?_) ?_
 ·exact H7.out.1
 simp only [List.filterMap_cons, List.filterMap_nil, List.getElem?_toArray, List.getElem?_cons_zero, List.getElem?_cons_succ]
 show wpQuiet _ _ _ _ [_] _
 obtain ⟨a, ha⟩ : ∃ a : Pl, a = ⟨kc, kl, kr, ku, kk, km, kn, kp⟩ := ⟨_, rfl⟩
 refine q_built 102 _ (by kernel_rfl) rfl (engC c ⟨kc, kl, kr, ku, kk, km, kn, kp⟩ ⟨kd, kq, w7.heap.size⟩) (by kernel_rfl) ?_
 simp only [Act.put, List.setIfInBounds_toArray, List.set_cons_zero, List.set_cons_succ]
 refine wpQuiet_nil ?_
 refine hfO (i := 10) ?_
 try simp only [Act.put, List.getElem_toArray, List.getElem_cons_zero, List.getElem_cons_succ, List.setIfInBounds_toArray, List.set_cons_zero, List.set_cons_succ, List.drop_succ_cons, List.drop_zero]
 refine wpOp_at rfl rfl (wp_box_at rfl (engC c ⟨kc, kl, kr, ku, kk, km, kn, kp⟩ ⟨kd, kq, w7.heap.size⟩) rfl ?_)
 have hbe : Below w7.heap.size w7 (w7.alloc (.cells (engC c ⟨kc, kl, kr, ku, kk, km, kn, kp⟩ ⟨kd, kq, w7.heap.size⟩) 102)) := (Below.refl _ _).alloc (Nat.le_refl _) _
 have G8 := Lib.hid (G7.out.more (R := BlkP w7.heap.size 102 (engC c ⟨kc, kl, kr, ku, kk, km, kn, kp⟩ ⟨kd, kq, w7.heap.size⟩)) stays_block (S' := fun i => i = w7.heap.size) ⟨Blk.new _ _ _, fun i => Iff.rfl⟩ (fun i hi => by omega) hbe H7.out.2.2)
 have H8 := Lib.hid (And.intro (H7.out.1.below hbe H7.out.1.lt) (And.intro (H7.out.2.1.trans (hbe.mono H7.out.2.1.size)) H7.out.2.2))
 refine ⟨H8.out.1, ?_⟩
 clear G7 H7 hbe
 generalize w7.alloc (.cells (engC c ⟨kc, kl, kr, ku, kk, km, kn, kp⟩ ⟨kd, kq, w7.heap.size⟩) 102) = w8 at *
 generalize w7.heap.size = ke at *
 try simp only [Act.put, List.getElem_toArray, List.getElem_cons_zero, List.getElem_cons_succ, List.setIfInBounds_toArray, List.set_cons_zero, List.set_cons_succ, List.drop_succ_cons, List.drop_zero]
 refine hfW (fun w' => Blk w' b 30 (cellsOf c)) (m := 2) (f := 0) [11, 12] (?_) ?_
 ·exact H8.out.1
 simp only [List.filterMap_cons, List.filterMap_nil, List.getElem?_toArray, List.getElem?_cons_zero, List.getElem?_cons_succ]
 show wpQuiet _ _ _ _ [_, _] _
 iterate 2 (go_big_quiet_step ((intros; rfl)))
 refine wpQuiet_nil ?_
 refine ⟨by kernel_rfl, NoPanic.normal ?_⟩
 try simp only [Act.put, List.getElem_toArray, List.getElem_cons_zero, List.getElem_cons_succ, List.setIfInBounds_toArray, List.set_cons_zero, List.set_cons_succ, List.drop_succ_cons, List.drop_zero]
 go_wp2_with fail
 go_ret2
 refine ⟨⟨kc, kl, kr, ku, kk, km, kn, kp⟩, ⟨kd, kq, ke⟩, rfl, fun Z => ?_⟩
 have hB := H8.out.2.2
 refine made_eg G8.out H8.out.2.1 HW3.out fun k hk => ?_
 have h1 : k = 0 ∨ k = 1 ∨ k = 2 ∨ k = 3 ∨ k = 4 ∨ k = 5 ∨ k = 6 ∨ k = 7 ∨ k = 8 ∨ k = 9 ∨ k = 10 := by omega
 rcases h1 with rfl | rfl | rfl | rfl | rfl | rfl | rfl | rfl | rfl | rfl | rfl <;> rfl
end
end
section
open Go Go.RowKit Go.Deep
set_option maxRecDepth 100000
structure Sv where
 a : Option Addr
 n : Nat
 c : Nat
def Sv.v (x : Sv) : Value := .slice x.a x.n x.c
def cellsSn (s : Sg) (ac : Int) (u : Int) (v1 v2 v3 v4 v5 v6 : Value) : Array Value := #[.int .i64 s.bk, .int .i64 s.ep, v1, .int .u64 s.D, .int .u64 s.P, .int .u64 s.B, .int .u64 ac, v2, v3, v4, v5, v6, .int .i64 (s.cu : Int), .int .u64 s.cy, .int .i64 u]
def snZ : Array Value := #[.int .i64 0, .int .i64 0, .slice none 0 0, .int .u64 0, .int .u64 0, .int .u64 0, .int .u64 0, .slice none 0 0, .slice none 0 0, .slice none 0 0, .slice none 0 0, .slice none 0 0, .int .i64 0, .int .u64 0, .int .i64 0]
def rwV (s : Sg) (v : Value) : World → (Nat → Prop) → Prop := RowP 68 7 v s.V.length (flat s.V)
def rwI (l : List Int) (v : Value) : World → (Nat → Prop) → Prop := RowP 3 1 v l.length (l.map (Value.int .i64))
def rwM (s : Sg) (v : Value) : World → (Nat → Prop) → Prop := RowP 116 2 v s.mg.length (flat2 s.mg)
def rwT (s : Sg) (v : Value) : World → (Nat → Prop) → Prop := RowP 119 2 v s.pt.length (flatQ s.pt)
def snX (Z : Nat → World → (Nat → Prop) → Prop) (N : Nat) (s : Sg) (v1 v2 v3 v4 v5 v6 : Value) : Nat → World → (Nat → Prop) → Prop :=
 xput (xput (xput (xput (xput (xput Z N (rwV s v1)) (N + 1) (rwI s.pd v2)) (N + 2) (rwI s.F v3)) (N + 3) (rwI s.W v4)) (N + 4) (rwM s v5)) (N + 5) (rwT s v6)
theorem sn_one (s : Sg) (ac u : Int) (a1 a2 a3 a4 a5 a6 : Option Addr) (n1 n2 n3 n4 n5 n6 c1 c2 c3 c4 c5 c6 : Nat) : (cellsSn s ac u (.slice a1 n1 c1) (.slice a2 n2 c2) (.slice a3 n3 c3) (.slice a4 n4 c4) (.slice a5 n5 c5) (.slice a6 n6 c6)).all (·.oneCell') = true := Array.all_eq_true_iff_forall_mem.2 fun u hu => by
 simp only [cellsSn, List.mem_toArray, List.mem_cons, List.not_mem_nil, or_false] at hu
 rcases hu with rfl | rfl | rfl | rfl | rfl | rfl | rfl | rfl | rfl | rfl | rfl | rfl | rfl | rfl | rfl <;> rfl
theorem nfo_snap : (Tryz.prog.info? 28).map (·.size) = some 15 := by kernel_rfl
theorem nfo_tot : (Tryz.prog.info? 109).map (·.size) = some 3 := by kernel_rfl
section
variable {N : Nat} {w0 : Org} {w w' w1 : World} {c cf : Nat → Int} {a : Pl} {q : Ql} {X Z : Nat → World → (Nat → Prop) → Prop} {s s' : Sg} {L L' : List Ent} {k : Nat}
theorem Eg.pall (h : Eg N w0 w c a q Z s L) (hl : s.pd.length ≤ 4096) : Calls Tryz.prog 45 #[.pointer (some ⟨a.p, 0, none⟩)] w fun e w' => ∃ v, e = .returned v ∧ Eg (N + 1) w0 w' c a q (xput Z N (rwI s.pd v)) s L := by
 have hN := h.low
 obtain ⟨X, hX, hN8, hh, _, hK, _⟩ := h.open
 refine (hh.pall hX hN8).mono fun e w' ⟨he, g1, _⟩ => ⟨_, he, ?_⟩
 have g2 := hK _ _ _ _ g1 stays_block rfl rfl
 have g3 := g2.torow (r := N) (t := 3) (k := 1) (n := s.pd.length) hN (by omega) xput_same (by simp) (by unfold maxLen; omega)
 rwa [xput_again] at g3
theorem Eg.lall (h : Eg N w0 w c a q Z s L) (cl : Int) : Calls Tryz.prog 46 #[.pointer (some ⟨a.n, 0, none⟩), .int .i64 cl] w fun e w' => ∃ v, e = .returned v ∧ Eg (N + 1) w0 w' c a q (xput Z N (rwI (laneL s.F s.W cl) v)) s L := by
 obtain ⟨X, hX, hN8, hh, _, hK, _⟩ := h.open
 exact (hh.lall hX hN8 cl).mono fun e w' ⟨v, he, g1, _⟩ => ⟨v, he, hK _ _ _ _ g1 stays_row rfl rfl⟩
theorem Eg.mrow (h : Eg N w0 w c a q Z s L) (hl : s.mg.length ≤ 4096) : Calls Tryz.prog 47 #[.pointer (some ⟨q.d, 0, none⟩)] w fun e w' => ∃ v, e = .returned v ∧ Eg (N + 1) w0 w' c a q (xput Z N (rwM s v)) s L := by
 have hN := h.low
 refine (h.mall).mono fun e w' ⟨he, g1, _⟩ => ⟨_, he, ?_⟩
 have g3 := g1.torow (r := N) (t := 116) (k := 2) (n := s.mg.length) hN (by omega) xput_same (mg_row_len _) (by unfold maxLen; omega)
 rwa [xput_again] at g3
theorem Eg.trow (h : Eg N w0 w c a q Z s L) (hl : s.pt.length ≤ 4096) : Calls Tryz.prog 48 #[.pointer (some ⟨q.q, 0, none⟩)] w fun e w' => ∃ v, e = .returned v ∧ Eg (N + 1) w0 w' c a q (xput Z N (rwT s v)) s L := by
 have hN := h.low
 refine (h.tall).mono fun e w' ⟨he, g1, _⟩ => ⟨_, he, ?_⟩
 have g3 := g1.torow (r := N) (t := 119) (k := 2) (n := s.pt.length) hN (by omega) xput_same (pt_row_len _) (by unfold maxLen; omega)
 rwa [xput_again] at g3
theorem Eg.at_ (h : Eg N w0 w c a q Z s L) : CallW 49 #[.pointer (some ⟨a.k, 0, none⟩)] w (.int .i64 s.cu) := by
 obtain ⟨X, hX, hN8, hh, _⟩ := h.open
 exact hh.at_ hN8
theorem Eg.carry (h : Eg N w0 w c a q Z s L) : CallD 50 #[.pointer (some ⟨a.m, 0, none⟩)] w (.int .u64 s.cy) := by
 obtain ⟨X, hX, hN8, hh, _⟩ := h.open
 exact hh.carry hN8
theorem Eg.totals (h : Eg N w0 w c a q Z s L) : CallB 40 #[.pointer (some ⟨a.l, 0, none⟩)] w (.agg #[.int .u64 s.D, .int .u64 s.P, .int .u64 s.B]) := by
 obtain ⟨X, hX, hN8, hh, _⟩ := h.open
 exact hh.totals hN8
theorem Eg.ulen (h : Eg N w0 w c a q Z s L) (hL : L.length ≤ 100000) : Calls Tryz.prog 51 #[.pointer (some ⟨a.u, 0, none⟩)] w fun e w' => e = .returned (.int .i64 L.length) ∧ Eg N w0 w' c a q Z s L := by
 obtain ⟨X, hX, hN8, hh, hK, _⟩ := h.open
 exact (hh.ulen hX hN8 hL).mono fun e w' ⟨he, g1, _⟩ => ⟨he, hK _ _ _ g1 rfl rfl⟩
theorem tot_one (x y z : Int) : (#[Value.int .u64 x, .int .u64 y, .int .u64 z]).all (·.oneCell') = true := Array.all_eq_true_iff_forall_mem.2 fun u hu => by
 simp only [List.mem_toArray, List.mem_cons, List.not_mem_nil, or_false] at hu
 rcases hu with rfl | rfl | rfl <;> rfl
set_option maxHeartbeats 6400000 in
theorem esnap (h : Eg N w0 w c a q Z s L) (t : Tm c s) (hL : L.length ≤ 100000) (hpd : s.pd.length ≤ 4096) (hmg : s.mg.length ≤ 4096) (hpt : s.pt.length ≤ 4096) :
  Calls Tryz.prog 20 #[.pointer (some ⟨q.e, 0, none⟩)] w fun e w' => ∃ x1 x2 x3 x4 x5 x6 : Sv, e = .returned (.agg (cellsSn s (activeOf s.V) L.length x1.v x2.v x3.v x4.v x5.v x6.v)) ∧
   Eg (N + 6) w0 w' c a q (snX Z N s x1.v x2.v x3.v x4.v x5.v x6.v) s L := by
 have hN := h.low
 have h1 := h.box snZ 28
 have HX := Lib.hid (And.intro t (And.intro hL (And.intro hpd (And.intro hmg hpt))))
 have HN := Lib.hid hN
 clear h t hL hpd hmg hpt hN
 go_enter Tryz.func20, Tryz.ntmps20
 go_upto_region 1 with (fail)
 generalize hW : w.alloc (.cells _ 28) = V0
 have eW : w.alloc (.cells snZ 28) = V0 := hW
 rw [eW] at h1
 generalize w.heap.size = b at *
 have H1 := Lib.hid h1
 have y22 := Eg.x22 h1
 clear hW eW h1
 go_wp2_with fail
 refine (Eg.totals H1.out).mono ?_
 rintro e w2 ⟨rfl, hb2⟩
 have h2 := (H1.out.below hb2).box #[.int .u64 s.D, .int .u64 s.P, .int .u64 s.B] 109
 have H2 := Lib.hid h2
 clear H1 hb2 y22 h2
 go_upto_region 4 with (first | (refine wsr w2.heap.size #[.int .u64 s.D, .int .u64 s.P, .int .u64 s.B] 109 (heap_alloc_new w2 _) nfo_tot (tot_one _ _ _) ?_; rw [World.setRow_alloc_new]))
 generalize w2.heap.size = tb at *
 generalize w2.alloc (.cells #[.int .u64 s.D, .int .u64 s.P, .int .u64 s.B] 109) = W2 at *
 simp only [List.append_eq, List.cons_append, List.nil_append, Act.put]
 refine wrW (fun w' => Blk w' q.e 102 (engC c a q) ∧ Blk w' tb 109 #[.int .u64 s.D, .int .u64 s.P, .int .u64 s.B]) 14 [0, 1, 2, 4, 5, 6, 8, 9, 10, 11, 12, 14, 15, 16, 17, 18, 19, 20, 21, 22, 23, 24, 26, 27, 28, 29, 30, 32, 33, 34, 35, 36, 38, 39, 40, 41, 42, 44, 45, 46, 47, 48, 50, 51, 52, 53, 54, 56, 57, 58, 59, 60, 62, 63, 64, 65, 66, 68, 69, 70, 71, 72] (?_) ?_
 ·exact ⟨H2.out.drew.blk, H2.out.drew.blkAt (r := N + 1) (by have := HN.out; omega) (by omega) xput_same⟩
 simp only [List.filterMap_cons, List.filterMap_nil, List.getElem?_toArray, List.getElem?_cons_zero, List.getElem?_cons_succ]
 show wpQuiet _ _ _ _ (_ :: _ :: _ :: _ :: _ :: _ :: _ :: _ :: _ :: _ :: _ :: _ :: _ :: _ :: _ :: _ :: _ :: _ :: _ :: _ :: _ :: _ :: _ :: _ :: _ :: _ :: _ :: _ :: _ :: _ :: _ :: _ :: _ :: _ :: _ :: _ :: _ :: _ :: _ :: _ :: _ :: _ :: _ :: _ :: _ :: _ :: _ :: _ :: _ :: _ :: _ :: _ :: _ :: _ :: _ :: _ :: _ :: _ :: _ :: _ :: _ :: _ :: []) _
 iterate 10 (go_big_quiet_step ((intros; rfl)))
 refine qce _ ⟨q.e, 21, none⟩ (.pointer (some ⟨a.r, 0, none⟩)) (fun w h => h.1.cell 21) ?_
 simp only [Act.put, List.setIfInBounds_toArray, List.set_cons_zero, List.set_cons_succ]
 iterate 1 (go_big_quiet_step ((intros; rfl)))
 refine qce _ ⟨tb, 0, none⟩ (.int .u64 s.D) (fun w h => h.2.cell 0) ?_
 simp only [Act.put, List.setIfInBounds_toArray, List.set_cons_zero, List.set_cons_succ]
 iterate 1 (go_big_quiet_step ((intros; rfl)))
 refine qce _ ⟨tb, 1, none⟩ (.int .u64 s.P) (fun w h => h.2.cell 1) ?_
 simp only [Act.put, List.setIfInBounds_toArray, List.set_cons_zero, List.set_cons_succ]
 iterate 1 (go_big_quiet_step ((intros; rfl)))
 refine qce _ ⟨tb, 2, none⟩ (.int .u64 s.B) (fun w h => h.2.cell 2) ?_
 simp only [Act.put, List.setIfInBounds_toArray, List.set_cons_zero, List.set_cons_succ]
 iterate 4 (go_big_quiet_step ((intros; rfl)))
 refine qce _ ⟨q.e, 21, none⟩ (.pointer (some ⟨a.r, 0, none⟩)) (fun w h => h.1.cell 21) ?_
 simp only [Act.put, List.setIfInBounds_toArray, List.set_cons_zero, List.set_cons_succ]
 iterate 4 (go_big_quiet_step ((intros; rfl)))
 refine qce _ ⟨q.e, 27, none⟩ (.pointer (some ⟨a.p, 0, none⟩)) (fun w h => h.1.cell 27) ?_
 simp only [Act.put, List.setIfInBounds_toArray, List.set_cons_zero, List.set_cons_succ]
 iterate 4 (go_big_quiet_step ((intros; rfl)))
 refine qce _ ⟨q.e, 24, none⟩ (.pointer (some ⟨a.n, 0, none⟩)) (fun w h => h.1.cell 24) ?_
 simp only [Act.put, List.setIfInBounds_toArray, List.set_cons_zero, List.set_cons_succ]
 iterate 4 (go_big_quiet_step ((intros; rfl)))
 refine qce _ ⟨q.e, 24, none⟩ (.pointer (some ⟨a.n, 0, none⟩)) (fun w h => h.1.cell 24) ?_
 simp only [Act.put, List.setIfInBounds_toArray, List.set_cons_zero, List.set_cons_succ]
 iterate 4 (go_big_quiet_step ((intros; rfl)))
 refine qce _ ⟨q.e, 28, none⟩ (.pointer (some ⟨q.d, 0, none⟩)) (fun w h => h.1.cell 28) ?_
 simp only [Act.put, List.setIfInBounds_toArray, List.set_cons_zero, List.set_cons_succ]
 iterate 4 (go_big_quiet_step ((intros; rfl)))
 refine qce _ ⟨q.e, 29, none⟩ (.pointer (some ⟨q.q, 0, none⟩)) (fun w h => h.1.cell 29) ?_
 simp only [Act.put, List.setIfInBounds_toArray, List.set_cons_zero, List.set_cons_succ]
 iterate 4 (go_big_quiet_step ((intros; rfl)))
 refine qce _ ⟨q.e, 23, none⟩ (.pointer (some ⟨a.k, 0, none⟩)) (fun w h => h.1.cell 23) ?_
 simp only [Act.put, List.setIfInBounds_toArray, List.set_cons_zero, List.set_cons_succ]
 iterate 4 (go_big_quiet_step ((intros; rfl)))
 refine qce _ ⟨q.e, 25, none⟩ (.pointer (some ⟨a.m, 0, none⟩)) (fun w h => h.1.cell 25) ?_
 simp only [Act.put, List.setIfInBounds_toArray, List.set_cons_zero, List.set_cons_succ]
 iterate 4 (go_big_quiet_step ((intros; rfl)))
 refine qce _ ⟨q.e, 26, none⟩ (.pointer (some ⟨a.u, 0, none⟩)) (fun w h => h.1.cell 26) ?_
 simp only [Act.put, List.setIfInBounds_toArray, List.set_cons_zero, List.set_cons_succ]
 refine wpQuiet_nil ?_
 have E0 := Lib.hid H2.out.drew
 clear H2
 generalize W2.drew = U0 at *
 refine hfO (i := 3) ?_
 refine wcA #[.pointer (some ⟨q.e, 20, none⟩)] Tryz.call41 ((eblock E0.out).mono ?_)
 rintro e _ ⟨rfl, rfl⟩
 refine ⟨_, rfl, ⟨E0.out.blk, E0.out.blkAt (r := N + 1) (by have := HN.out; omega) (by omega) (by exact xput_same)⟩, ?_⟩
 refine hfO (i := 7) ?_
 try simp only [Act.put, List.getElem_toArray, List.getElem_cons_zero, List.getElem_cons_succ, List.setIfInBounds_toArray, List.set_cons_zero, List.set_cons_succ, List.drop_succ_cons, List.drop_zero]
 refine wcA #[.pointer (some ⟨q.e, 20, none⟩)] Tryz.call42 ((eepoch E0.out HX.out.1.b0 HX.out.1.b1 HX.out.1.l HX.out.1.q).mono ?_)
 rintro e _ ⟨rfl, m1, rfl⟩
 have E2 := Lib.hid (E0.out.drewN m1)
 clear E0
 generalize U0.drewN m1 = U2 at *
 refine ⟨_, rfl, ⟨E2.out.blk, E2.out.blkAt (r := N + 1) (by have := HN.out; omega) (by omega) (by exact xput_same)⟩, ?_⟩
 refine hfO (i := 13) ?_
 try simp only [Act.put, List.getElem_toArray, List.getElem_cons_zero, List.getElem_cons_succ, List.setIfInBounds_toArray, List.set_cons_zero, List.set_cons_succ, List.drop_succ_cons, List.drop_zero]
 refine wcA #[.pointer (some ⟨a.r, 0, none⟩)] Tryz.call43 ((Eg.all E2.out).mono ?_)
 rintro e U3 ⟨v1, rfl, h3, _⟩
 obtain ⟨a1, c1, rfl⟩ := owns_slice' (h3.row (r := N + 2) (by have := HN.out; omega) (by omega) xput_same)
 have E3 := Lib.hid h3
 clear h3 E2
 refine ⟨_, rfl, ⟨E3.out.blk, E3.out.blkAt (r := N + 1) (by have := HN.out; omega) (by omega) (by rw [xput_ne (by omega), xput_same])⟩, ?_⟩
 refine hfO (i := 25) ?_
 try simp only [Act.put, List.getElem_toArray, List.getElem_cons_zero, List.getElem_cons_succ, List.setIfInBounds_toArray, List.set_cons_zero, List.set_cons_succ, List.drop_succ_cons, List.drop_zero]
 refine wcA #[.pointer (some ⟨a.r, 0, none⟩)] Tryz.call44 ((Eg.active E3.out).mono ?_)
 rintro e _ ⟨rfl, rfl⟩
 refine ⟨_, rfl, ⟨E3.out.blk, E3.out.blkAt (r := N + 1) (by have := HN.out; omega) (by omega) (by rw [xput_ne (by omega), xput_same])⟩, ?_⟩
 refine hfO (i := 31) ?_
 try simp only [Act.put, List.getElem_toArray, List.getElem_cons_zero, List.getElem_cons_succ, List.setIfInBounds_toArray, List.set_cons_zero, List.set_cons_succ, List.drop_succ_cons, List.drop_zero]
 refine wcA #[.pointer (some ⟨a.p, 0, none⟩)] Tryz.call45 ((Eg.pall E3.out HX.out.2.2.1).mono ?_)
 rintro e U5 ⟨v2, rfl, h5⟩
 obtain ⟨a2, c2, rfl⟩ := owns_slice' (h5.row (r := N + 2 + 1) (by have := HN.out; omega) (by omega) xput_same)
 have E5 := Lib.hid h5
 clear h5 E3
 refine ⟨_, rfl, ⟨E5.out.blk, E5.out.blkAt (r := N + 1) (by have := HN.out; omega) (by omega) (by rw [xput_ne (by omega), xput_ne (by omega), xput_same])⟩, ?_⟩
 refine hfO (i := 37) ?_
 try simp only [Act.put, List.getElem_toArray, List.getElem_cons_zero, List.getElem_cons_succ, List.setIfInBounds_toArray, List.set_cons_zero, List.set_cons_succ, List.drop_succ_cons, List.drop_zero]
 refine wcA #[.pointer (some ⟨a.n, 0, none⟩), .int .i64 0] Tryz.call46 ((Eg.lall E5.out 0).mono ?_)
 rintro e U6 ⟨v3, rfl, h6⟩
 rw [show laneL s.F s.W 0 = s.F from rfl] at h6
 obtain ⟨a3, c3, rfl⟩ := owns_slice' (h6.row (r := N + 2 + 1 + 1) (by have := HN.out; omega) (by omega) xput_same)
 have E6 := Lib.hid h6
 clear h6 E5
 refine ⟨_, rfl, ⟨E6.out.blk, E6.out.blkAt (r := N + 1) (by have := HN.out; omega) (by omega) (by rw [xput_ne (by omega), xput_ne (by omega), xput_ne (by omega), xput_same])⟩, ?_⟩
 refine hfO (i := 43) ?_
 try simp only [Act.put, List.getElem_toArray, List.getElem_cons_zero, List.getElem_cons_succ, List.setIfInBounds_toArray, List.set_cons_zero, List.set_cons_succ, List.drop_succ_cons, List.drop_zero]
 refine wcA #[.pointer (some ⟨a.n, 0, none⟩), .int .i64 1] Tryz.call46 ((Eg.lall E6.out 1).mono ?_)
 rintro e U7 ⟨v4, rfl, h7⟩
 rw [show laneL s.F s.W 1 = s.W from rfl] at h7
 obtain ⟨a4, c4, rfl⟩ := owns_slice' (h7.row (r := N + 2 + 1 + 1 + 1) (by have := HN.out; omega) (by omega) xput_same)
 have E7 := Lib.hid h7
 clear h7 E6
 refine ⟨_, rfl, ⟨E7.out.blk, E7.out.blkAt (r := N + 1) (by have := HN.out; omega) (by omega) (by rw [xput_ne (by omega), xput_ne (by omega), xput_ne (by omega), xput_ne (by omega), xput_same])⟩, ?_⟩
 refine hfO (i := 49) ?_
 try simp only [Act.put, List.getElem_toArray, List.getElem_cons_zero, List.getElem_cons_succ, List.setIfInBounds_toArray, List.set_cons_zero, List.set_cons_succ, List.drop_succ_cons, List.drop_zero]
 refine wcA #[.pointer (some ⟨q.d, 0, none⟩)] Tryz.call47 ((Eg.mrow E7.out HX.out.2.2.2.1).mono ?_)
 rintro e U8 ⟨v5, rfl, h8⟩
 obtain ⟨a5, c5, rfl⟩ := owns_slice' (h8.row (r := N + 2 + 1 + 1 + 1 + 1) (by have := HN.out; omega) (by omega) xput_same)
 have E8 := Lib.hid h8
 clear h8 E7
 refine ⟨_, rfl, ⟨E8.out.blk, E8.out.blkAt (r := N + 1) (by have := HN.out; omega) (by omega) (by rw [xput_ne (by omega), xput_ne (by omega), xput_ne (by omega), xput_ne (by omega), xput_ne (by omega), xput_same])⟩, ?_⟩
 refine hfO (i := 55) ?_
 try simp only [Act.put, List.getElem_toArray, List.getElem_cons_zero, List.getElem_cons_succ, List.setIfInBounds_toArray, List.set_cons_zero, List.set_cons_succ, List.drop_succ_cons, List.drop_zero]
 refine wcA #[.pointer (some ⟨q.q, 0, none⟩)] Tryz.call48 ((Eg.trow E8.out HX.out.2.2.2.2).mono ?_)
 rintro e U9 ⟨v6, rfl, h9⟩
 obtain ⟨a6, c6, rfl⟩ := owns_slice' (h9.row (r := N + 2 + 1 + 1 + 1 + 1 + 1) (by have := HN.out; omega) (by omega) xput_same)
 have E9 := Lib.hid h9
 clear h9 E8
 refine ⟨_, rfl, ⟨E9.out.blk, E9.out.blkAt (r := N + 1) (by have := HN.out; omega) (by omega) (by rw [xput_ne (by omega), xput_ne (by omega), xput_ne (by omega), xput_ne (by omega), xput_ne (by omega), xput_ne (by omega), xput_same])⟩, ?_⟩
 refine hfO (i := 61) ?_
 try simp only [Act.put, List.getElem_toArray, List.getElem_cons_zero, List.getElem_cons_succ, List.setIfInBounds_toArray, List.set_cons_zero, List.set_cons_succ, List.drop_succ_cons, List.drop_zero]
 refine wcA #[.pointer (some ⟨a.k, 0, none⟩)] Tryz.call49 ((Eg.at_ E9.out).mono ?_)
 rintro e _ ⟨rfl, rfl⟩
 refine ⟨_, rfl, ⟨E9.out.blk, E9.out.blkAt (r := N + 1) (by have := HN.out; omega) (by omega) (by rw [xput_ne (by omega), xput_ne (by omega), xput_ne (by omega), xput_ne (by omega), xput_ne (by omega), xput_ne (by omega), xput_same])⟩, ?_⟩
 refine hfO (i := 67) ?_
 try simp only [Act.put, List.getElem_toArray, List.getElem_cons_zero, List.getElem_cons_succ, List.setIfInBounds_toArray, List.set_cons_zero, List.set_cons_succ, List.drop_succ_cons, List.drop_zero]
 refine wcA #[.pointer (some ⟨a.m, 0, none⟩)] Tryz.call50 ((Eg.carry E9.out).mono ?_)
 rintro e _ ⟨rfl, m10, rfl⟩
 have E11 := Lib.hid (E9.out.drewN m10)
 clear E9
 generalize U9.drewN m10 = U11 at *
 refine ⟨_, rfl, ⟨E11.out.blk, E11.out.blkAt (r := N + 1) (by have := HN.out; omega) (by omega) (by rw [xput_ne (by omega), xput_ne (by omega), xput_ne (by omega), xput_ne (by omega), xput_ne (by omega), xput_ne (by omega), xput_same])⟩, ?_⟩
 refine hfO (i := 73) ?_
 try simp only [Act.put, List.getElem_toArray, List.getElem_cons_zero, List.getElem_cons_succ, List.setIfInBounds_toArray, List.set_cons_zero, List.set_cons_succ, List.drop_succ_cons, List.drop_zero]
 refine wcA #[.pointer (some ⟨a.u, 0, none⟩)] Tryz.call51 ((Eg.ulen E11.out HX.out.2.1).mono ?_)
 rintro e U12 ⟨rfl, h12⟩
 have E12 := Lib.hid h12
 clear h12 E11
 refine ⟨_, rfl, ⟨E12.out.blk, E12.out.blkAt (r := N + 1) (by have := HN.out; omega) (by omega) (by rw [xput_ne (by omega), xput_ne (by omega), xput_ne (by omega), xput_ne (by omega), xput_ne (by omega), xput_ne (by omega), xput_same])⟩, ?_⟩
 try simp only [Act.put, List.getElem_toArray, List.getElem_cons_zero, List.getElem_cons_succ, List.setIfInBounds_toArray, List.set_cons_zero, List.set_cons_succ, List.drop_succ_cons, List.drop_zero]
 refine hfW (fun w' => Blk w' q.e 102 (engC c a q) ∧ Blk w' tb 109 #[.int .u64 s.D, .int .u64 s.P, .int .u64 s.B]) (m := 2) (f := 1) [74] (?_) ?_
 ·exact ⟨E12.out.blk, E12.out.blkAt (r := N + 1) (by have := HN.out; omega) (by omega) (by rw [xput_ne (by omega), xput_ne (by omega), xput_ne (by omega), xput_ne (by omega), xput_ne (by omega), xput_ne (by omega), xput_same])⟩
 simp only [List.filterMap_cons, List.filterMap_nil, List.getElem?_toArray, List.getElem?_cons_zero, List.getElem?_cons_succ]
 show wpQuiet _ _ _ _ [_] _
 refine q_built 28 _ (by kernel_rfl) rfl (cellsSn s (activeOf s.V) L.length (.slice a1 s.V.length c1) (.slice a2 s.pd.length c2) (.slice a3 s.F.length c3) (.slice a4 s.W.length c4) (.slice a5 s.mg.length c5) (.slice a6 s.pt.length c6)) (by kernel_rfl) ?_
 simp only [Act.put, List.setIfInBounds_toArray, List.set_cons_zero, List.set_cons_succ]
 refine wpQuiet_nil ?_
 generalize hcs : cellsSn s (activeOf s.V) L.length (.slice a1 s.V.length c1) (.slice a2 s.pd.length c2) (.slice a3 s.F.length c3) (.slice a4 s.W.length c4) (.slice a5 s.mg.length c5) (.slice a6 s.pt.length c6) = cs
 have hone : cs.all (·.oneCell') = true := by rw [← hcs]; exact sn_one _ _ _ _ _ _ _ _ _ _ _ _ _ _ _ _ _ _ _ _ _
 have HSZ : Hid ((Tryz.prog.info? 28).map (·.size) = some cs.size) := Lib.hid (by rw [← hcs]; exact nfo_snap)
 have HCS := Lib.hid hcs
 clear hcs
 have hB := E12.out.blkAt (r := N) HN.out (by omega) (by rw [xput_ne (by omega), xput_ne (by omega), xput_ne (by omega), xput_ne (by omega), xput_ne (by omega), xput_ne (by omega), xput_ne (by omega), xput_same])
 refine hfO (i := 75) ?_
 have hsz2 : snZ.size = cs.size := by rw [← HCS.out]; rfl
 refine wpOp_at rfl rfl (wp_store_row _ _ _ rfl b cs rfl rfl 28 _ hB HSZ.out hsz2 hone ?_)
 have h9 := E12.out.setr (r := N) HN.out (by omega) (by rw [xput_ne (by omega), xput_ne (by omega), xput_ne (by omega), xput_ne (by omega), xput_ne (by omega), xput_ne (by omega), xput_ne (by omega), xput_same]) (cs' := cs) (Blk.setRow hB _) (Kept.setRow (S := fun i => i = b) (Kept.refl _ _) (.inl rfl) _)
 have HB := Lib.hid hB
 have E9 := Lib.hid h9
 refine ⟨⟨h9.blk, h9.blkAt (r := N + 1) (by have := HN.out; omega) (by omega) (by rw [xput_ne (by omega), xput_ne (by omega), xput_ne (by omega), xput_ne (by omega), xput_ne (by omega), xput_ne (by omega), xput_ne (by omega), xput_same])⟩, ?_⟩
 clear h9 hB E12
 refine ⟨by kernel_rfl, NoPanic.normal ?_⟩
 try simp only [Act.put, List.getElem_toArray, List.getElem_cons_zero, List.getElem_cons_succ, List.setIfInBounds_toArray, List.set_cons_zero, List.set_cons_succ, List.drop_succ_cons, List.drop_zero]
 go_wp2_with fail
 refine bodyPost_ret (v := .agg cs) (results_cell_row (fn := Tryz.f20) rfl _ _ b 28 _ (0, 0) _ rfl (setRow_heap _ _ _ _ _ _ HB.out) Tryz.underlying28 rfl HSZ.out) rfl ?_
 refine ⟨⟨a1, _, c1⟩, ⟨a2, _, c2⟩, ⟨a3, _, c3⟩, ⟨a4, _, c4⟩, ⟨a5, _, c5⟩, ⟨a6, _, c6⟩, by rw [← HCS.out]; rfl, ?_⟩
 have hN := HN.out
 refine E9.out.remap (by omega) (fun k => if k < N then k else k + 2) (fun k hk => if_pos (by omega)) (fun k hk => by split <;> omega) (fun k hk => by split <;> omega) (fun i j hi hj e => by split at e <;> split at e <;> omega) fun k h1 h2 => ?_
 by_cases hk : k < N
 ·rw [if_pos hk]
  unfold snX
  rw [xput_ne (by omega), xput_ne (by omega), xput_ne (by omega), xput_ne (by omega), xput_ne (by omega), xput_ne (by omega), xput_ne (by omega), xput_ne (by omega), xput_ne (by omega), xput_ne (by omega), xput_ne (by omega), xput_ne (by omega), xput_ne (by omega), xput_ne (by omega), xput_ne (by omega)]
 ·rw [if_neg hk]
  have hc : k = N ∨ k = N + 1 ∨ k = N + 2 ∨ k = N + 3 ∨ k = N + 4 ∨ k = N + 5 := by omega
  unfold snX
  rcases hc with rfl | rfl | rfl | rfl | rfl | rfl
  ·rw [xput_ne (by omega), xput_ne (by omega), xput_ne (by omega), xput_ne (by omega), xput_ne (by omega), xput_same, xput_ne (by omega), xput_ne (by omega), xput_ne (by omega), xput_ne (by omega), xput_ne (by omega), xput_ne (by omega), xput_same]; rfl
  ·rw [xput_ne (by omega), xput_ne (by omega), xput_ne (by omega), xput_ne (by omega), xput_same, xput_ne (by omega), xput_ne (by omega), xput_ne (by omega), xput_ne (by omega), xput_ne (by omega), xput_same]; rfl
  ·rw [xput_ne (by omega), xput_ne (by omega), xput_ne (by omega), xput_same, xput_ne (by omega), xput_ne (by omega), xput_ne (by omega), xput_ne (by omega), xput_same]; rfl
  ·rw [xput_ne (by omega), xput_ne (by omega), xput_same, xput_ne (by omega), xput_ne (by omega), xput_ne (by omega), xput_same]; rfl
  ·rw [xput_ne (by omega), xput_same, xput_ne (by omega), xput_ne (by omega), xput_same]; rfl
  ·rw [xput_same, xput_ne (by omega), xput_same]; rfl
end
end
end Go.Proofs.YtobgbcdgffgdhaaGreat
