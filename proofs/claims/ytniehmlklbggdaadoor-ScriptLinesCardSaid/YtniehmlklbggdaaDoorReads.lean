/- Read, the program's: a range over the lines of a text. -/
import Derived.Test.YtniehmlklbggdaaDoorDecs
import Derived.Test.YtniehmlklbggdaaDoorPars
import Derived.Test.YtniehmlklbggdaaDoorRReads
import Derived.RangeFuncCalls
namespace Go.Proofs.YtniehmlklbggdaaDoor
open Go Go.RowKit Go.Shelf
set_option linter.unusedVariables false
set_option linter.unusedSimpArgs false
set_option maxRecDepth 100000

attribute [local go_sem] Oper.semAt_some

/-- In the midst of Read: the lines of D are in the list; cur is what is left of the text. -/
structure Rs (w : World) (D : List (List UInt8)) (cur : List UInt8) (W : World) : Prop where
  out : ∃ v, Blk W w.heap.size 25 #[v] ∧ OwnO W (w.heap.size + 4) v (readW D).length (readW D)
  sb : Blk W (w.heap.size + 1) 9 #[.string (bs cur)]
  pb : Blk W (w.heap.size + 2) 9 #[.string ⟨#[10]⟩]
  vb : Blk W (w.heap.size + 3) 3 #[.int .i64 0]
  below : Below w.heap.size w W
section
variable {w W W' : World} {D : List (List UInt8)} {cur : List UInt8}
theorem Rs.big (h : Rs w D cur W) : w.heap.size + 4 ≤ W.heap.size := h.vb.lt
theorem Rs.turn {row : Option Nat} (h : Rs w D cur W) (hg : W.grownBy W' row) (hr : ∀ r, row = some r → w.heap.size ≤ r ∧ ∃ o : Obj, W.heap[r]? = some o ∧ o.isCells = false) : Rs w D cur W' := by
  have hr2 : ∀ r, row = some r → ∃ o : Obj, W.heap[r]? = some o ∧ o.isCells = false := fun r e => (hr r e).2
  obtain ⟨v, h1, h2⟩ := h.out
  exact ⟨⟨v, blk_turn h1 hg hr2, owns_turn h2 hg hr2⟩, blk_turn h.sb hg hr2, blk_turn h.pb hg hr2, blk_turn h.vb hg hr2, below_turn h.below h.below.size hg fun r e => (hr r e).1⟩
theorem Rs.up (h : Rs w D cur W) (hb : Below W.heap.size W W') : Rs w D cur W' := by
  obtain ⟨v, h1, h2⟩ := h.out
  exact ⟨⟨v, h1.below hb h1.lt, h2.below hb⟩, h.sb.below hb h.sb.lt, h.pb.below hb h.pb.lt, h.vb.below hb h.vb.lt, h.below.trans (hb.mono h.below.size)⟩
/-- Something has been cut off. -/
theorem Rs.cut (h : Rs w D cur W) (c2 : List UInt8) : Rs w D c2 (W.setCell ⟨w.heap.size + 1, 0, none⟩ (.string (bs c2))) := by
  obtain ⟨v, h1, h2⟩ := h.out
  refine ⟨⟨v, h1.far (by simp) _, ownsR_same h2 fun i hi => Below.heap_setCell _ _ _ i (fun e => by have := h2.ge hi; simp only at e; omega)⟩, h.sb.set_ 0 _, h.pb.far (by simp) _, h.vb.far (by simp) _, h.below.setCell (by simp) _⟩
/-- One more is in the list. -/
theorem Rs.collect {v v' : Value} {w2 : World} {obj : Obj} {d : List UInt8} (h : Rs w D cur W) (h1 : Blk W w.heap.size 25 #[v]) (h2 : OwnO W (w.heap.size + 4) v (readW D).length (readW D)) (hd : d ≠ [])
    (o2 : OwnO w2 (w.heap.size + 4) v' ((readW D).length + 1) (readW D ++ [parD d])) (hg : (W.alloc obj).grownBy w2 v.ownBlock) :
    Blk w2 w.heap.size 25 #[v] ∧ Rs w (D ++ [d]) cur (w2.setCell ⟨w.heap.size, 0, none⟩ v') ∧ Kept (fun i => i = w.heap.size ∨ v.ownBlock = some i) W (w2.setCell ⟨w.heap.size, 0, none⟩ v') := by
  have hne : ∀ i, v.ownBlock = some i → w.heap.size + 4 ≤ i := fun i hi => h2.ge hi
  have k1 : Kept (fun i => v.ownBlock = some i) W w2 := ((Kept.refl _ W).alloc obj).trans (Kept.of_grown (S := fun i => v.ownBlock = some i) hg (fun i e => e.symm)) (fun _ _ e => e)
  have hb1 : Blk w2 w.heap.size 25 #[v] := h1.kept k1 (fun e => by have := hne _ e; omega)
  have bw : Below w.heap.size w w2 := Kept.below h.below k1 (fun i hi => by have := hne i hi; omega) h.below.size
  refine ⟨hb1, ⟨⟨v', hb1.set_ 0 v', ?_⟩, (h.sb.kept k1 (fun e => by have := hne _ e; omega)).far (by simp) _, (h.pb.kept k1 (fun e => by have := hne _ e; omega)).far (by simp) _, (h.vb.kept k1 (fun e => by have := hne _ e; omega)).far (by simp) _, bw.setCell (Nat.le_refl _) _⟩, (k1.more fun i _ e => .inr e).setCell (.inl (.inl rfl)) _⟩
  rw [readW_snoc, if_neg hd, List.length_append]
  exact ownsR_same o2 fun i hi => Below.heap_setCell _ _ _ i (fun e => by have := o2.ge hi; simp only at e; omega)
/-- An empty line adds nothing. -/
theorem Rs.skip (h : Rs w D cur W) : Rs w (D ++ [[]]) cur W := by
  obtain ⟨v, h1, h2⟩ := h.out
  refine ⟨⟨v, h1, ?_⟩, h.sb, h.pb, h.vb, h.below⟩
  rw [readW_snoc, if_pos rfl, List.append_nil]
  exact h2
end
def msz (B : Nat) (w : World) : Nat := match w.cell? ⟨B, 0, none⟩ with | some (.string s) => s.size | _ => 0
theorem msz_eq {B : Nat} {w : World} {l : List UInt8} (h : Blk w B 9 #[.string (bs l)]) : msz B w = l.length := by
  unfold msz
  rw [h.cell 0]
  rfl
/-- What a round begins with: D is done, cur is left, x comes now. -/
structure Rx where
  D : List (List UInt8)
  cur : List UInt8
def Rx.now (x : Rx) : List UInt8 := (cutP 10 x.cur).1
set_option maxHeartbeats 3200000 in
theorem lines_in {w : World} {A : List (List UInt8)} {M : Nat} (F : Fence) (n : Nat) (hFw : F = Fence.wide) (hn : 3 ≤ n) (l : Nat) (Bk : World → Prop) (B0 : Nat) (hBk : ∀ A B, KeepsFrom B0 A B → Bk A → Bk B)
    (hY : ∀ (x : Rx) W, Bk W → (x.D ++ spl 10 [] x.cur = A ∧ x.cur.length ≤ M ∧ Rs w x.D x.cur W) → YieldAt F (n - 1) Tryd.prog l #[.string (bs x.now)] W fun e W' => e = .returned (.bool true) ∧ Bk W' ∧ Rs w (x.D ++ [x.now]) x.cur W')
    (W : World) (h0 : Bk W) (cur0 : List UInt8) (hA : spl 10 [] cur0 = A) (hM : cur0.length ≤ M) (hMM : M ≤ 90000) (hD : Rs w [] cur0 W) :
    CallsIn F n Tryd.prog 77 #[.func (.yield l) #[] #[], .pointer (some ⟨w.heap.size + 2, 0, none⟩), .pointer (some ⟨w.heap.size + 1, 0, none⟩), .pointer (some ⟨w.heap.size + 3, 0, none⟩)] W fun e W' => (∃ v, e = .returned v) ∧ Bk W' ∧ ∃ c, Rs w A c W' := by
  have h1 : 1 ≤ n := by omega
  have hro : F.round = none := by rw [hFw]; rfl
  have hf : ∀ k, F.fn k := fun k => by rw [hFw]; trivial
  have HC : Hid (∀ (f n : Nat) (args : Array Value) (w : World) (R : Ending → World → Prop), Calls Tryd.prog f args w R → CallsIn F n Tryd.prog f args w R) := Lib.hid (fun f n args w R h => by rw [hFw]; exact callsIn_wide.2 h)
  have HIX : Hid (∀ (c : List UInt8) (w : World), Calls Tryd.prog 49 #[.string (bs c), .string ⟨#[10]⟩] w fun e w' => e = .returned (.int .i64 (Lib.indexByte c 10)) ∧ w = w') := Lib.hid (fun c w => (Tryd.strings_Index_one (bs c) 10 w).mono fun e w' ⟨h1, h2⟩ => ⟨h1, h2.symm⟩)
  have HY := Lib.hid hY
  have HBK := Lib.hid hBk
  have HD := Lib.hid hD
  have HMM := Lib.hid hMM
  have HA := Lib.hid (And.intro hA hM)
  have hp : W.cell? ⟨w.heap.size + 2, 0, none⟩ = some (.string ⟨#[10]⟩) := hD.pb.cell 0
  clear hFw hY hBk hD hA hM hMM
  refine callsIn_of_wp Tryd.func77 rfl (hf _) ?_ hro
  simp only [Tryd.ntmps77, List.size_toArray, List.length_cons, List.length_nil, Nat.reduceAdd, Nat.reduceSub, Array.replicate_succ, Array.replicate_zero, List.push_toArray, List.append_toArray, List.nil_append, List.cons_append]
  gi_wp2
  gi_loopw [7] (fun _ wr => ∃ (D : List (List UInt8)) (cur : List UInt8), Hid (D ++ spl 10 [] cur = A) ∧ Hid (cur.length ≤ M) ∧ Hid (Bk wr) ∧ Hid (Rs w D cur wr)) (fun _ wr => msz (w.heap.size + 1) wr)
  case atStart => exact ⟨[], cur0, Lib.hid HA.out.1, Lib.hid HA.out.2, Lib.hid h0, HD⟩
  case round =>
    clear hp h0 HD HA
    obtain ⟨D, cur, HA, HM, HB, HR⟩ := hrel
    have hs1 : wr.cell? ⟨w.heap.size + 1, 0, none⟩ = some (.string (bs cur)) := HR.out.sb.cell 0
    have hs2 : wr.cell? ⟨w.heap.size + 2, 0, none⟩ = some (.string ⟨#[10]⟩) := HR.out.pb.cell 0
    have hs3 : wr.cell? ⟨w.heap.size + 3, 0, none⟩ = some (.int .i64 0) := HR.out.vb.cell 0
    have HX := HIX.out cur
    have HYY := HY.out ⟨D, cur⟩ wr HB.out ⟨HA.out, HM.out, HR.out⟩
    simp only [Rx.now] at HYY
    have hlen : (bs cur).size = cur.length := rfl
    have hmm := HMM.out
    have hcl := HM.out
    rcases cutP_index (c := 10) (l := cur) with ⟨h, e⟩ | ⟨i, h, hi, e⟩
    · rw [h] at HX
      rw [e] at HYY
      have HX2 := Lib.hid HX
      have HEND : Hid (D ++ [cur] = A) := Lib.hid (by rw [← HA.out, spl_end (index_no h)]; rfl)
      obtain ⟨fn, tmps, assign, body, hy, hR⟩ := HYY
      try dsimp only at hy hR
      have HRR := Lib.hid hR
      clear HX h e hR hlen hcl hmm
      generalize bs cur = S at *
      gi_wp2_with (first | (gi_at_call 49; refine (HC.out _ _ _ _ _ (HX2.out _)).mono ?_; rintro e w1 ⟨rfl, rfl⟩))
      refine HRR.out.mono ?_
      rintro e w5 ⟨rfl, hb5, hs5⟩
      rw [HEND.out] at hs5
      gi_wp2
      go_end0
      exact ⟨⟨_, rfl⟩, hb5, cur, hs5⟩
    · rw [h] at HX
      rw [e] at HYY
      have HX2 := Lib.hid HX
      have HNX : Hid ((D ++ [cur.take i]) ++ spl 10 [] (cur.drop (i + 1)) = A) := Lib.hid (by
        obtain ⟨h1, h2⟩ := index_yes h
        rw [← HA.out, List.append_assoc]
        congr 1
        conv => rhs; rw [h1, spl_cut h2]
        rfl)
      have HLI := Lib.hid hi
      have hi1 : (i : Int) < (bs cur).size := by rw [hlen]; omega
      have hi2 : (i : Int) + 1 ≤ (bs cur).size := by rw [hlen]; omega
      have hi3 : (i : Int) ≤ (bs cur).size := by omega
      have hi0 : (0 : Int) ≤ (i : Int) + 1 := by omega
      have hi4 : i ≤ 90000 := by omega
      have HTK : Hid ((bs cur).extract 0 i = bs (cur.take i)) := Lib.hid (by rw [bs_take]; rfl)
      have HDR : Hid ((bs cur).extract (i + 1) (bs cur).size = bs (cur.drop (i + 1))) := Lib.hid (by rw [bs_drop]; rfl)
      simp only [← HTK.out] at HYY
      obtain ⟨fn, tmps, assign, body, hy, hR⟩ := HYY
      try dsimp only at hy hR
      have HRR := Lib.hid hR
      clear HX h e hR hlen hcl hmm hi
      generalize hSS : bs cur = S at *
      have HSE := Lib.hid hSS
      clear hSS
      gi_wp2_with (first | (gi_at_call 49; refine (HC.out _ _ _ _ _ (HX2.out _)).mono ?_; rintro e w1 ⟨rfl, rfl⟩))
      refine HRR.out.mono ?_
      rintro e w5 ⟨rfl, hb5, hs5⟩
      have hp1 : w5.cell? ⟨w.heap.size + 1, 0, none⟩ = some (.string S) := by rw [← HSE.out]; exact hs5.sb.cell 0
      have hp2 : w5.cell? ⟨w.heap.size + 2, 0, none⟩ = some (.string ⟨#[10]⟩) := hs5.pb.cell 0
      have hp3 : w5.frozen? ⟨w.heap.size + 1, 0, none⟩ = false := hs5.sb.frozen 0
      have HS5 := Lib.hid hs5
      have HB5 := Lib.hid hb5
      clear hs5 hb5
      gi_wp2
      rw [HDR.out]
      have hc5 := HS5.out.cut (cur.drop (i + 1))
      refine ⟨⟨_, cur.drop (i + 1), HNX, Lib.hid (by rw [List.length_drop]; have := HM.out; omega), Lib.hid (HBK.out _ _ ((KeepsOthers.setCell _ _ _).from _) HB5.out), Lib.hid hc5⟩, ?_⟩
      rw [msz_eq hc5.sb, msz_eq HR.out.sb, List.length_drop]
      have := HLI.out
      omega
theorem splitseq_any (s sep : ByteArray) (w : World) : Calls Tryd.prog 46 #[.string s, .string sep] w fun e w' => e = .returned (.func (.func 77) #[] #[.pointer (some ⟨w.heap.size + 1, 0, none⟩), .pointer (some ⟨w.heap.size, 0, none⟩), .pointer (some ⟨w.heap.size + 2, 0, none⟩)]) ∧
    w' = ((w.alloc (.cells #[.string s] 9)).alloc (.cells #[.string sep] 9)).alloc (.cells #[.int .i64 0] 3) := by
  have hmf : ∀ (fn : Fn) (first cap : Array Value) (w : World), (Instr.makeFunc fn first cap).run Tryd.prog w = .ok (.func fn first cap) w := fun _ _ _ _ => rfl
  go_enter Tryd.func46, Tryd.ntmps46
  go_wp2
  go_ret
  exact ⟨rfl, rfl⟩
/-- What Read leaves. -/
def ReadPost (w : World) (l : List Oq) (e : Ending) (w' : World) : Prop := ∃ v, e = .returned v ∧ OwnO w' w.heap.size v l.length l ∧ Below w.heap.size w w'
def roundR (w : World) (s : ByteArray) (d : List UInt8) : Act :=
  { tmps := #[.string s, undef, .slice none 0 0, .pointer (some ⟨w.heap.size, 0, none⟩), .string (bs d), undef, undef, .string s, .func (.func 77) #[] #[.pointer (some ⟨w.heap.size + 2, 0, none⟩), .pointer (some ⟨w.heap.size + 1, 0, none⟩), .pointer (some ⟨w.heap.size + 3, 0, none⟩)], .string (bs d), undef, undef, undef, undef, undef, undef, undef, undef, undef, undef, undef, undef], defers := [] }
set_option maxHeartbeats 3200000 in
theorem reads_in (s : ByteArray) (F : Fence) (n : Nat) (hFw : F = Fence.wide) (hn : 6 ≤ n) (hs : s.size ≤ 80000) (w : World) (hv : Vars w) :
    CallsIn F n Tryd.prog 21 #[.string s] w (ReadPost w (readL s.data.toList)) := by
  have h1 : 1 ≤ n := by omega
  have hro : F.round = none := by rw [hFw]; rfl
  have hf : ∀ k, F.fn k := fun k => by rw [hFw]; trivial
  have HC : Hid (∀ (f n : Nat) (args : Array Value) (w : World) (R : Ending → World → Prop), Calls Tryd.prog f args w R → CallsIn F n Tryd.prog f args w R) := Lib.hid (fun f n args w R h => by rw [hFw]; exact callsIn_wide.2 h)
  have HV := Lib.hid hv
  have hR0 : Rs w [] s.data.toList ((((w.alloc (.cells #[.slice none 0 0] 25)).alloc (.cells #[.string s] 9)).alloc (.cells #[.string ⟨#[10]⟩] 9)).alloc (.cells #[.int .i64 0] 3)) := by
    have n1 := Blk.new w 25 #[.slice none 0 0]
    have n2 := Blk.new (w.alloc (.cells #[.slice none 0 0] 25)) 9 #[.string s]
    have n3 := Blk.new ((w.alloc (.cells #[.slice none 0 0] 25)).alloc (.cells #[.string s] 9)) 9 #[.string ⟨#[10]⟩]
    have n4 := Blk.new (((w.alloc (.cells #[.slice none 0 0] 25)).alloc (.cells #[.string s] 9)).alloc (.cells #[.string ⟨#[10]⟩] 9)) 3 #[.int .i64 0]
    simp only [World.size_alloc, Nat.add_assoc, Nat.reduceAdd] at n1 n2 n3 n4
    exact ⟨⟨.slice none 0 0, ((n1.alloc _).alloc _).alloc _, OwnO.nil _ _⟩, (n2.alloc _).alloc _, n3.alloc _, n4, ((((Below.refl _ _).alloc (Nat.le_refl _) _).alloc (by simp) _).alloc (by simp; omega) _).alloc (by simp; omega) _⟩
  have HR0 := Lib.hid hR0
  have hz : ((((w.alloc (.cells #[.slice none 0 0] 25)).alloc (.cells #[.string s] 9)).alloc (.cells #[.string ⟨#[10]⟩] 9)).alloc (.cells #[.int .i64 0] 3)).heap.size = w.heap.size + 4 := by simp
  have HZ := Lib.hid hz
  have hlen : s.data.toList.length = s.size := by simp
  have HLN : Hid (s.data.toList.length ≤ 80000) := Lib.hid (by omega)
  have HLI := Lib.hid (fun l Bk B0 hBk => lines_in (w := w) (A := spl 10 [] s.data.toList) (M := 80000) F (n - 1) hFw (by omega) l Bk B0 hBk)
  have HRL : Hid (readW (spl 10 [] s.data.toList) = readL s.data.toList) := Lib.hid rfl
  have HAL : Hid ((spl 10 [] s.data.toList).length ≤ 80001) := Lib.hid (by rw [spl_len]; have := List.count_le_length (a := (10 : UInt8)) (l := s.data.toList); omega)
  obtain ⟨A, hA⟩ : ∃ A, spl 10 [] s.data.toList = A := ⟨_, rfl⟩
  have HA := Lib.hid hA
  rw [hA] at HLI HRL HAL
  clear hFw hR0 hz hlen hs hv hA
  refine callsIn_of_wp_marks Tryd.func21 rfl (hf _) ?_ hro
  simp only [Tryd.ntmps21, List.size_toArray, List.length_cons, List.length_nil, Nat.reduceAdd, Nat.reduceSub, Array.replicate_succ, Array.replicate_zero, List.push_toArray, List.append_toArray, List.nil_append, List.cons_append]
  gi_wp2_with (first | (gi_at_call 46; refine (HC.out _ _ _ _ _ (splitseq_any s ⟨#[10]⟩ _)).mono ?_; rintro e w2 ⟨rfl, rfl⟩))
  simp only [Nat.add_assoc, Nat.reduceAdd]
  generalize (((w.alloc (.cells #[.slice none 0 0] 25)).alloc (.cells #[.string s] 9)).alloc (.cells #[.string ⟨#[10]⟩] 9)).alloc (.cells #[.int .i64 0] 3) = W at *
  have hz := HZ.out
  refine wpIn_rangeFunc_jointH hro h1 (gf := 77) (lb := #[.pointer (some ⟨w.heap.size + 2, 0, none⟩), .pointer (some ⟨w.heap.size + 1, 0, none⟩), .pointer (some ⟨w.heap.size + 3, 0, none⟩)]) rfl (hf _) (enters_of Tryd.func77 (by kernel_rfl) rfl)
    (encs := fun x : Rx => #[.string (bs x.now)]) (fun _ => rfl)
    (fun x W => x.D ++ spl 10 [] x.cur = A ∧ x.cur.length ≤ 80000 ∧ Rs w x.D x.cur W)
    (fun x W => Rs w (x.D ++ [x.now]) x.cur W)
    (fun y W => (y.1.D ++ spl 10 [] y.1.cur = A ∧ y.1.cur.length ≤ 80000 ∧ Rs w y.1.D y.1.cur W) ∧ y.2 = roundR w s y.1.now)
    (fun W => ∃ c, Rs w A c W)
    (fun x A' B' row h hg hr => ⟨⟨h.1.1, h.1.2.1, h.1.2.2.turn hg (fun r e => ⟨by have := (hr r e).1; omega, (hr r e).2⟩)⟩, h.2⟩)
    (fun x A' B' row h hg hr => h.turn hg (fun r e => ⟨by have := (hr r e).1; omega, (hr r e).2⟩))
    (fun x A' B' row h hg hr => h.imp fun O h => h.turn hg (fun r e => ⟨by have := (hr r e).1; omega, (hr r e).2⟩))
    ?assign ?body ?it ?done
  case assign =>
    rintro l x W1 K ht hK
    gi_wp2
    exact hK _ _ (KeepsFrom.refl _ _) ⟨ht, rfl⟩
  case body =>
    rintro l x a' W1 ⟨⟨hA1, hcl, hr⟩, ha'⟩
    simp only at ha' hA1 hcl hr
    subst ha'
    unfold roundR
    obtain ⟨d, hd⟩ : ∃ d, x.now = d := ⟨_, rfl⟩
    have hdl : d.length ≤ 80000 := by have := (cutP_len 10 x.cur).1; rw [← hd]; unfold Rx.now; omega
    have HDD := Lib.hid hd
    rw [hd]
    have HRS := Lib.hid hr
    have h11 : 1 ≤ n - 1 - 1 := by omega
    have HDN : Hid ((readW x.D).length + 1 ≤ 4000000) := Lib.hid (by
      have h1 := readW_len x.D
      have h2 := congrArg List.length hA1
      rw [List.length_append] at h2
      have := HAL.out
      omega)
    clear hd hr hA1 hcl HLI
    by_cases he : d = []
    · subst he
      have hbs : bs [] = ⟨#[]⟩ := rfl
      rw [hbs]
      clear hbs
      gi_wp2
      exact ⟨KeepsFrom.refl _ _, HRS.out.skip⟩
    · have hne := bs_full he
      have hf1 : ((bs d).toList == []) = false := by simpa using hne
      have hf2 : (!(bs d).toList.isEmpty) = true := by simpa using hne
      have hf3 : (bs d).toList.isEmpty = false := by simpa using hne
      have HE := Lib.hid he
      have HPL := Lib.hid (fun w h => parse_any (bs d) w (Nat.le_trans (show (bs d).size ≤ 80000 from hdl) (by omega)) h)
      rw [show (bs d).data.toList = d from rfl] at HPL
      obtain ⟨o, ho⟩ : ∃ o, parD d = o := ⟨_, rfl⟩
      rw [ho] at HPL
      have HO := Lib.hid ho
      generalize (parL d).isSome = ok at *
      generalize bs d = y at *
      clear he ho hdl
      have HVW := Lib.hid (HV.out.below HRS.out.below)
      gi_wp2_with (fail)
      refine (CallsIn.inRound l (HC.out _ _ _ _ _ (HPL.out W1 HVW.out))).mono ?_
      rintro e w2 ⟨rfl, b2⟩
      have b3 : Below w2.heap.size w2 (w2.alloc (.cells (cellsOq o) 35)) := (Below.refl _ _).alloc (Nat.le_refl _) _
      have bb : Below W1.heap.size W1 (w2.alloc (.cells (cellsOq o) 35)) := b2.trans (b3.mono b2.size)
      have R3 := Lib.hid (HRS.out.up bb)
      have HBB := Lib.hid bb
      obtain ⟨v, h1v, h2v⟩ := R3.out.out
      have hc : (w2.alloc (.cells (cellsOq o) 35)).cell? ⟨w.heap.size, 0, none⟩ = some v := h1v.cell 0
      have Q3 : Hid (Blk (w2.alloc (.cells (cellsOq o) 35)) w2.heap.size 35 (cellsOq o)) := Lib.hid (Blk.new w2 _ _)
      have H1V := Lib.hid h1v
      have H2V := Lib.hid h2v
      clear b2 b3 bb h1v h2v HPL
      gi_wp2_with (first | (refine wpListIn_store_row rfl _ _ _ rfl w2.heap.size (cellsOq o) rfl rfl 35 _ (heap_alloc_new w2 _) infoOq rfl (cellsOq_one _) ?_; rw [World.setRow_alloc_new]; generalize w2.alloc (.cells (cellsOq o) 35) = w3 at *; generalize w2.heap.size = h at *; have ba : Below w3.heap.size w3 (w3.alloc (.cells (cellsOq o) 35)) := (Below.refl _ _).alloc (Nat.le_refl _) _; have O4 := Lib.hid (H2V.out.below ba); have L4 := Lib.hid (lstO_one w3 (fun _ => False) o (fun h => h)); have HBS : Hid (w.heap.size + 4 ≤ (w3.alloc (.cells (cellsOq o) 35)).heap.size) := Lib.hid (by have := R3.out.big; simp; omega); clear ba) | (refine wpListIn_load_row rfl 35 _ rfl h rfl 35 (cellsOq o) (0, 0) _ Q3.out Tryd.underlying35 rfl infoOq ?_) | (refine wpListIn_oneOq rfl _ o rfl rfl ?_) | (refine armIn_appO O4.out L4.out rfl _ _ rfl rfl rfl rfl HDN.out HBS.out ?_; intro v5 w5 q1 q2 q3; obtain ⟨c1, c2, c3⟩ := R3.out.collect H1V.out H2V.out HE.out (by rw [HO.out]; exact q1) q2; have C2 := Lib.hid c2; have C3 := Lib.hid c3; have hc5 : w5.cell? ⟨w.heap.size, 0, none⟩ = some v := c1.cell 0; have hf5 : w5.frozen? ⟨w.heap.size, 0, none⟩ = false := c1.frozen 0; obtain ⟨a5, p5, rfl, _, _⟩ := ownsR_slice q1; clear q1 q2 q3 c1 c2 c3))
      refine ⟨(keepsFrom_below HBB.out).trans (keepsFrom_of C3.out (fun i _ hi => ?_)), C2.out⟩
      rcases hi with rfl | hi
      · exact ⟨_, _, H1V.out⟩
      · obtain ⟨cur, hcur, _⟩ := ownsR_blk H2V.out hi
        exact ⟨_, _, hcur⟩
  case it =>
    intro l Bk hBk hY W1 hb hbl
    exact HLI.out l Bk W.heap.size hBk hY W1 hb s.data.toList HA.out HLN.out (by omega) (HR0.out.turn (only_of_below hbl none) (fun r e => by cases e))
  case done =>
    rintro D W2 hD ⟨O, hs⟩ hK
    obtain ⟨v, h1v, h2v⟩ := hs.out
    have hc : W2.cell? ⟨w.heap.size, 0, none⟩ = some v := h1v.cell 0
    have HS2 := Lib.hid (hs.turn (grownBy_putObj' W2 D (.deferred none)) (fun r e => by cases e; exact ⟨by omega, _, hK, rfl⟩))
    have HO2 : Hid (OwnO (W2.putObj D (.deferred none)) (w.heap.size + 4) v (readW A).length (readW A)) := Lib.hid (owns_turn h2v (grownBy_putObj' W2 D (.deferred none)) (fun r e => by cases e; exact ⟨_, hK, rfl⟩))
    rw [HRL.out] at HO2
    clear hs h1v h2v HLI HR0 HZ hz
    gi_wp2
    refine ⟨by simp, .inl ⟨_, _, rfl, run_takeDeferred hK, ?_⟩⟩
    exact ⟨_, results_tmp rfl _ _ _, v, rfl, ownsR_base HO2.out (by omega), HS2.out.below⟩
theorem reads_any (s : ByteArray) (hs : s.size ≤ 80000) (w : World) (hv : Vars w) : Calls Tryd.prog 21 #[.string s] w (ReadPost w (readL s.data.toList)) :=
  (callsIn_wide (n := 6)).1 (reads_in s Fence.wide 6 rfl (Nat.le_refl _) hs w hv)
end Go.Proofs.YtniehmlklbggdaaDoor
