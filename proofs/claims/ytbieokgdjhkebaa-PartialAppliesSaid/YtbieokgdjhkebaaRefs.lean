/- The reference of layer 7: Put (stage 7's). -/
import Derived.Test.YtbieokgdjhkebaaBase
namespace Go.Proofs.Ytbieokgdjhkebaa
open Go Go.RowKit Go.Deep
set_option linter.unusedVariables false
set_option linter.unusedSimpArgs false
set_option maxRecDepth 100000

theorem take_snoc {l : List Val} {k : Nat} {v : Val} (h : l[k]? = some v) : l.take (k + 1) = l.take k ++ [v] := by
  have hk := (List.getElem?_eq_some_iff.1 h).1
  rw [List.take_add_one, h]
  rfl
theorem put_facts {w W w1 : World} {l : List Val} {i : Nat} {old v : Val} {u : Value} (hil : i < l.length) (hi : l[i]? = some old) (ho : w1.ownsRow (w.heap.size + 1) 33 7 u (0 + l.length) ([] ++ flat l)) (hg : W.grownBy w1 (Value.slice (some ⟨w.heap.size + 1, 0, none⟩) 0 0).ownBlock)
    (hb : Below w.heap.size w W) (hE : Blk W w.heap.size 33 (cellsV v)) :
    ∃ g cu, w.heap.size + 1 ≤ g ∧ u = .slice (some ⟨g, 0, none⟩) l.length cu ∧ Hid (w1.ownsRow 0 33 7 (.slice (some ⟨g, 0, none⟩) l.length cu) l.length (flat l)) ∧ Hid (Blk w1 w.heap.size 33 (cellsV v)) ∧
      Hid ((w1.setCells g (i * 7) (cellsV v).toList).ownsRow w.heap.size 33 7 (.slice (some ⟨g, 0, none⟩) l.length cu) l.length (flat (l.set i v)) ∧ Below w.heap.size w (w1.setCells g (i * 7) (cellsV v).toList)) ∧ Hid (w1.there g (i * 7) 7) := by
  simp only [Nat.zero_add, List.nil_append] at ho
  rcases ho.2 with ⟨_, h0⟩ | ⟨g, cu, cur, rfl, h1, _⟩
  · omega
  · have ho0 := owns_base ho (Nat.zero_le _)
    obtain ⟨hs, hth⟩ := owns_set ho0 hi v
    have hb1 : Below w.heap.size w w1 := below_only hb (g := w.heap.size + 1) hg hb.size (by omega)
    have hb2 : Below w.heap.size w (w1.setCells g (i * 7) (cellsV v).toList) := by
      have k : Kept (fun i => i = g) w1 (w1.setCells g (i * 7) (cellsV v).toList) := Kept.setCells _ _ _ (Kept.refl _ _) (.inl rfl)
      exact k.below hb1 (fun j hj => by omega) hb1.size
    refine ⟨g, cu, h1, rfl, Lib.hid ho0, Lib.hid (hE.grown hg (by simp [Value.ownBlock])), Lib.hid ⟨?_, hb2⟩, Lib.hid hth⟩
    refine ⟨hs.1, hs.2.imp id ?_⟩
    rintro ⟨g', cp', cur', h3, h4⟩
    have h5 := h3
    injection h5 with h5 _ _; injection h5 with h5; injection h5 with h5
    subst h5
    exact ⟨g, cp', cur', h3, by omega, h4.2⟩
set_option maxHeartbeats 800000 in
theorem put_any (S : Nat → Prop) (a : Option Addr) (cp i : Nat) (old v : Val) (l : List Val) (w : World) (h : Lst w S a l) (hl : l.length ≤ 4096) (hi : l[i]? = some old) :
    Calls Try.prog 30 #[.slice a l.length cp, .int .i64 i, .agg (cellsV v)] w fun e w' => ∃ u, e = .returned u ∧ w'.ownsRow w.heap.size 33 7 u l.length (flat (l.set i v)) ∧ Below w.heap.size w w' := by
  have HL := Lib.hid h
  have HI := Lib.hid hi
  have hil := (List.getElem?_eq_some_iff.1 hi).1
  obtain ⟨j0, hj0, hz, hs7, hby⟩ := val_app
  have HLEN := Lib.hid (flat_len l)
  have HK : Hid (Below w.heap.size w (w.alloc (.cells (cellsV v) 33))) := Lib.hid ((Below.refl _ _).alloc (Nat.le_refl _) _)
  have HE : Hid (Blk (w.alloc (.cells (cellsV v) 33)) w.heap.size 33 (cellsV v)) := Lib.hid (Blk.new _ _ _)
  have hsz : (w.alloc (.cells (cellsV v) 33)).heap.size = w.heap.size + 1 := by simp
  have HSZ := Lib.hid hsz
  have HEA : Hid (Blk ((w.alloc (.cells (cellsV v) 33)).alloc (.cells #[] 33)) w.heap.size 33 (cellsV v)) := Lib.hid (Blk.alloc HE.out _)
  have HN : Hid (Blk ((w.alloc (.cells (cellsV v) 33)).alloc (.cells #[] 33)) (w.heap.size + 1) 33 #[]) := Lib.hid (by have := Blk.new (w.alloc (.cells (cellsV v) 33)) 33 #[]; simpa using this)
  have HK2 : Hid (Below w.heap.size w ((w.alloc (.cells (cellsV v) 33)).alloc (.cells #[] 33))) := Lib.hid (((Below.refl _ _).alloc (Nat.le_refl _) _).alloc (by simp) _)
  have hi1 : ¬ (i : Int) < 0 := by omega
  have hi2 : ¬ (l.length : Int) ≤ (i : Int) := by omega
  have hi3 : (i : Int) < (l.length : Int) := by omega
  clear h hi hsz
  go_enter Try.func30, Try.ntmps30
  go_wp2_with (first | (at_builtin; refine wpList_append_src _ rfl (.tmp 8) (.tmp 9) 22 rfl (w.heap.size + 1) 33 j0 _ 7 56 Try.underlying22 hj0 hz hs7 hby (cellsV_size _) (by omega) (.slice (some ⟨w.heap.size + 1, 0, none⟩) 0 0) 0 [] rfl (owns_empty HN.out (Nat.le_refl _)) a l.length cp (flat l) rfl (by rw [HLEN.out]) (fun h0 => lst_src HL.out HK2.out h0) flat_mem (by unfold maxLen; omega) (by omega) (by simp) ?_; intro u w1 ho hg hv; obtain ⟨g, cu, hg1, rfl, HO, HE1, HZ, hth⟩ := put_facts hil HI.out ho hg HK2.out HEA.out; clear ho hg hv) | (refine wpList_load_val rfl 33 _ rfl w.heap.size 0 rfl v _ HE1.out.range Try.underlying33 rfl infoV ?_) | (refine wpList_store_mid rfl 33 _ _ rfl g (i * 7) (cellsV v) rfl rfl hth.out infoV (cellsV_one v) ?_))
  go_ret
  exact ⟨_, rfl, HZ.out⟩
end Go.Proofs.Ytbieokgdjhkebaa
