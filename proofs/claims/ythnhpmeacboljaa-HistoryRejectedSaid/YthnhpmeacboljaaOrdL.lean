/- Exit, ofClass and Order. -/
import Derived.Test.YthnhpmeacboljaaExitL
namespace Go.Proofs.Ythnhpmeacboljaa
open Go Go.RowKit Go.Deep
set_option linter.unusedVariables false
set_option linter.unusedSimpArgs false
set_option maxRecDepth 100000

set_option maxHeartbeats 1600000 in
theorem exitL_any (b : Nat) (T : Nat → Prop) (s : St) (n i : Int) (w : World) (h : LgAt w b T s n) (hi : (Lit.int .i64 i).wf = true) :
    Calls Try.prog 9 #[.pointer (some ⟨b, 0, none⟩), .int .i64 i] w fun e w' => e = .returned (.tuple #[.agg (cellsXv ((exitV s i).getD xvZ)), .bool (exitV s i).isSome]) ∧ Below w.heap.size w w' := by
  have HB1 : Hid (Below w.heap.size w (w.alloc (.cells #[.int .i64 0, .int .i64 0, .int .i64 0, .int .i64 0, .int .i64 0, .int .i64 0, .int .u64 0] 30))) := Lib.hid ((Below.refl _ _).alloc (Nat.le_refl _) _)
  have KR1 : Hid (Blk (w.alloc (.cells #[.int .i64 0, .int .i64 0, .int .i64 0, .int .i64 0, .int .i64 0, .int .i64 0, .int .u64 0] 30)) w.heap.size 30 (cellsXv xvZ)) := Lib.hid (Blk.new _ _ _)
  have HC := Lib.hid (exit_go b T s n i _ (h.below HB1.out) hi)
  clear h hi
  go_enter Try.func9, Try.ntmps9
  go_upto_region 1 with (fail)
  generalize w.alloc (.cells #[.int .i64 0, .int .i64 0, .int .i64 0, .int .i64 0, .int .i64 0, .int .i64 0, .int .u64 0] 30) = W at *
  generalize hrb : w.heap.size = rb at *
  have HRW := Lib.hid hrb
  clear hrb
  go_wp2_with (fail)
  refine HC.out.mono ?_
  rintro e w1 ⟨rfl, hb⟩
  have KR2 := Lib.hid (KR1.out.below hb KR1.out.lt)
  have HB2 : Hid (Below rb w w1) := Lib.hid (HB1.out.trans (hb.mono (Nat.le_of_lt KR1.out.lt)))
  clear hb HC HB1 KR1
  obtain ⟨x, hx⟩ : ∃ x, (exitV s i).getD xvZ = x := ⟨_, rfl⟩
  obtain ⟨r, hr⟩ : ∃ r, (exitV s i).isSome = r := ⟨_, rfl⟩
  rw [hx, hr]
  have HXR := Lib.hid (And.intro hx hr)
  clear hx hr
  go_wp2_with (refine wpList_store_row rfl _ _ _ rfl rb (cellsXv x) rfl rfl 30 _ KR2.out infoXv rfl (cellsXv_one _) ?_)
  refine bodyPost_ret (v := .tuple #[.agg (cellsXv x), .bool r]) (results_cell_row2 (fn := Try.f9) rfl _ _ rb 30 (cellsXv x) (0, 0) _ rfl (KR2.out.setRow (cellsXv x)) Try.underlying30 rfl infoXv) rfl ⟨?_, ?_⟩
  · rw [HXR.out.1, HXR.out.2]
  rw [HRW.out]
  exact below_row HB2.out KR2.out _

/-- A row of ints of one's own. -/
def OwnI (w : World) (base : Nat) (v : Value) (l : List Int) : Prop := w.ownsRow base 3 1 v l.length (l.map (Value.int .i64))
theorem OwnI.nil (w : World) (base : Nat) : OwnI w base (.slice none 0 0) [] := ⟨rfl, .inl ⟨rfl, rfl⟩⟩
theorem OwnI.below {w w' : World} {base : Nat} {v : Value} {l : List Int} (h : OwnI w base v l) (hb : Below w.heap.size w w') : OwnI w' base v l := ownsR_below h hb
theorem OwnI.ge {w : World} {base : Nat} {v : Value} {l : List Int} (h : OwnI w base v l) {i : Nat} (hi : v.ownBlock = some i) : base ≤ i := (ownsR_blk h hi).choose_spec.2
theorem OwnI.slice {w : World} {base : Nat} {v : Value} {l : List Int} (h : OwnI w base v l) : ∃ a cp, v = .slice a l.length cp ∧ l.length ≤ cp ∧ cp ≤ maxLen := ownsR_slice h
theorem arm_appI {ops : Array Oper} {rest : List Oper} {o : Oper} {c : Act} {w : World} {Q : Exit → Act → World → Prop} {base cap g : Nat} {v : Value} {l : List Int} {i : Int} (H : OwnI w base v l) (hc : w.cell? ⟨g, 0, none⟩ = some (.int .i64 i))
    (hgd : o.guard = none) (s x : Operand) (ho : o.op = .call { callee := .builtin .append, args := #[s, x], argTypes := #[51, 51] }) (hs : c.eval s = v) (hx : c.eval x = .slice (some ⟨g, 0, none⟩) 1 cap) (h63 : l.length ≤ 4000000) (hbase : base ≤ w.heap.size)
    (K : ∀ v' w', OwnI w' base v' (l ++ [i]) → w.grownBy w' v.ownBlock → (v'.ownBlock = v.ownBlock ∨ v'.ownBlock = some w.heap.size) → wpList Try.prog ops Q rest (c.put o.dst v') w') : wpList Try.prog ops Q (o :: rest) c w := by
  obtain ⟨i8, hi8, hz8, hs8, hb8⟩ := appInt
  refine wpList_append_src w hgd s x 51 ho base 3 i8 _ 1 8 Try.underlying51 hi8 hz8 hs8 hb8 rfl (by omega) v l.length _ hs H (some ⟨g, 0, none⟩) 1 cap [.int .i64 i] hx rfl (fun _ => ⟨_, rfl, fun j u hu => ?_⟩) (by simp [Value.oneCell']) (by unfold maxLen; omega) (by omega) hbase fun v' w' h1 h2 h3 => K v' w' ?_ h2 h3
  · rcases j with _ | j
    · simp at hu
      rw [add_plain, ← hu]
      exact hc
    · simp at hu
  · unfold OwnI
    rw [List.length_append, List.length_singleton, List.map_append]
    exact h1
/-- What a function that only makes a row of ints leaves. -/
def IntsPost (w : World) (l : List Int) (e : Ending) (w' : World) : Prop := ∃ a cp, e = .returned (.slice a l.length cp) ∧ OwnI w' w.heap.size (.slice a l.length cp) l ∧ Below w.heap.size w w'
theorem od_cell {w : World} {b : Nat} {T : Nat → Prop} {v : Lv} {s : St} {n : Int} (h : LgM w b T v s n) {k : Nat} {i : Int} (hk : s.od[k]? = some i) : ∃ g, v.oa = some ⟨g, 0, none⟩ ∧ w.cell? ⟨g, k, none⟩ = some (.int .i64 i) := by
  rcases h.od.2 with ⟨h1, h2⟩ | ⟨g, cap, cur, h1, h2, h3, h4, h5, h6⟩
  · have : s.od = [] := List.eq_nil_of_length_eq_zero h2
    rw [this] at hk
    simp at hk
  · injection h1 with h1 _ _
    refine ⟨g, h1, ?_⟩
    have := h.od.cells (g := g) (by rw [h1]; rfl) k (.int .i64 i) (by rw [List.getElem?_map, hk]; rfl)
    rwa [add_plain, Nat.zero_add] at this
theorem class_look (s : St) (i : Int) : ∃ ce : Xv, lookV false (.agg (cellsXv xvZ)) ((s.ex i).map exV) = .agg #[.int .i64 ce.cl, .int .i64 ce.rq, .int .i64 ce.dl, .int .i64 ce.ag, .int .i64 ce.sl, .int .i64 ce.pd, .int .u64 ce.am] ∧ ce.cl = ((s.ex i).map (·.cl)).getD 0 := by
  cases s.ex i with
  | none => exact ⟨xvZ, rfl, rfl⟩
  | some u => exact ⟨⟨u.cl, u.rq, u.dl, 0, 0, 0, 0⟩, rfl, rfl⟩
theorem field_cl (a : Act) (dst : Option Tmp) (x : Operand) (ty : TypeId) (pos : String) (after : Array Edge) (guard : Option (Nat × Bool)) (ce : Xv) (cl : Int) (w : World) (hx : a.eval x = .agg #[.int .i64 cl, .int .i64 ce.rq, .int .i64 ce.dl, .int .i64 ce.ag, .int .i64 ce.sl, .int .i64 ce.pd, .int .u64 ce.am]) :
    (execOp a.eval { dst, op := .field 30 x 0, type := ty, pos, after, guard }).run Try.prog w = .ok (.value (.int .i64 cl)) w := by
  have hp : ∀ cs : Array Value, cs[0]? = some (.int .i64 cl) → (part 3 cs 0).run Try.prog w = .ok (.int .i64 cl) w := fun cs h => run_part_plain w (by kernel_rfl) h
  simp only [execOp, hx, Instr.field]
  simp [Sem.run_bind, run_underlying Try.underlying30, asAgg, Result.andThen, hp]
set_option maxHeartbeats 3200000 in
theorem ofCls_any (b : Nat) (T : Nat → Prop) (s : St) (n c : Int) (w : World) (h : LgAt w b T s n) (hl : s.od.length ≤ 1000000) :
    Calls Try.prog 31 #[.pointer (some ⟨b, 0, none⟩), .int .i64 c] w fun e w' => IntsPost w (ofCls s c) e w' := by
  obtain ⟨v, hv⟩ := h
  have HV := Lib.hid hv
  have HL := Lib.hid hl
  clear hv
  obtain ⟨q, hq⟩ : ∃ q, s.od.length = q := ⟨_, rfl⟩
  have HQ := Lib.hid hq
  have y1 : w.cell? ⟨b, 1, none⟩ = some (.slice v.oa q v.oc) := by rw [← hq]; exact HV.out.cell 1
  rw [hq] at hl
  clear hq
  go_enter Try.func31, Try.ntmps31
  go_wp2_with (fail)
  go_loopw [5, 13] (fun acc i wr => ∃ (k : Nat) (a : Option Addr) (p cp : Nat), k ≤ q ∧ i = .int .i64 k ∧ acc = .slice a p cp ∧ Hid (((s.od.take k).filter (clsIs s c)).length = p ∧ OwnI wr w.heap.size (.slice a p cp) ((s.od.take k).filter (clsIs s c)) ∧ Below w.heap.size w wr)) (fun _ i _ => q - (intOf i).toNat)
  case atStart => exact ⟨0, none, 0, 0, by omega, rfl, rfl, Lib.hid ⟨rfl, OwnI.nil _ _, Below.refl _ _⟩⟩
  case round =>
    clear y1
    obtain ⟨k, a, p, cp, hk, rfl, rfl, HA⟩ := hrel
    by_cases hlt : k < q
    · obtain ⟨i, hi⟩ : ∃ i, s.od[k]? = some i := ⟨_, List.getElem?_eq_getElem (by rw [HQ.out]; exact hlt)⟩
      have HI := Lib.hid hi
      have HW := Lib.hid (HV.out.wf i (List.mem_of_getElem? hi))
      have HV1 := Lib.hid (HV.out.below HA.out.2.2)
      obtain ⟨g, hg, hc⟩ := od_cell HV1.out hi
      rw [hg] at *
      obtain ⟨ce, hlook, hcl⟩ := class_look s i
      have HLK := Lib.hid hlook
      have HM := Lib.hid HV1.out.ex
      have HTK : Hid (s.od.take (k + 1) = s.od.take k ++ [i]) := Lib.hid (by rw [List.take_add_one, hi]; rfl)
      have HPL : Hid (p ≤ 1000000) := Lib.hid (by
        rw [← HA.out.1]
        have h1 := List.length_filter_le (clsIs s c) (s.od.take k)
        have h2 : (s.od.take k).length ≤ s.od.length := by rw [List.length_take]; exact Nat.min_le_right _ _
        have := HL.out
        omega)
      have x0 : wr.cell? ⟨b, 0, none⟩ = some (.map (some v.m1)) := HV1.out.cell 0
      have hki : (0 : Int) ≤ (k : Int) := by omega
      have hkn : (k : Int) < (q : Int) := by omega
      generalize ce.cl = cl at *
      by_cases hcc : cl = c
      · have HF : Hid (clsIs s c i = true) := Lib.hid (by unfold clsIs; rw [← hcl, hcc]; simp)
        have d : (cl == c) = true := by simpa using hcc
        clear hi hg hlook hcl hcc
        have HKN : Hid (∀ x, (wr.alloc (.cells #[.int .i64 x] 3)).cell? ⟨wr.heap.size, 0, none⟩ = some (.int .i64 x)) := Lib.hid (fun x => (Blk.new wr 3 #[.int .i64 x]).cell 0)
        have HOW : Hid (OwnI (wr.alloc (.cells #[.int .i64 i] 3)) w.heap.size (.slice a p cp) ((s.od.take k).filter (clsIs s c))) := Lib.hid (HA.out.2.1.below ((Below.refl _ _).alloc (Nat.le_refl _) _))
        have HB : Hid (Below w.heap.size w (wr.alloc (.cells #[.int .i64 i] 3)) ∧ w.heap.size ≤ wr.heap.size) := Lib.hid ⟨HA.out.2.2.alloc HA.out.2.2.size _, HA.out.2.2.size⟩
        go_wp2_with (first | (refine wpList_lookF rfl false _ _ rfl HM.out Try.underlying3 Try.underlying72 _ (zeroXv _) i rfl rfl HW.out _ HLK.out ?_) | (refine wpList_valG (o := ⟨some 23, .field _ _ _, _, _, _, _⟩) (.int .i64 cl) rfl (field_cl _ _ _ _ _ _ _ ce cl _ rfl) ?_) | (refine arm_appI HOW.out (HKN.out i) rfl _ _ rfl rfl rfl (by rw [HA.out.1]; have := HPL.out; omega) (by have := HB.out.2; simp; omega) ?_; intro v' w3 ho3 hg3 hs3; obtain ⟨a3, c3, rfl, -, -⟩ := ho3.slice; clear hs3))
        go_roundw
        case rel =>
          refine ⟨k + 1, a3, _, c3, by omega, by go_num, rfl, Lib.hid ⟨?_, ?_, ?_⟩⟩
          · rw [HTK.out, List.filter_append, show List.filter (clsIs s c) [i] = [i] by simp [HF.out], List.length_append, List.length_singleton]
          · rw [HTK.out, List.filter_append, show List.filter (clsIs s c) [i] = [i] by simp [HF.out]]
            rw [List.length_append, List.length_singleton] at ho3
            exact ho3
          · exact HB.out.1.grown hg3 (by have := HB.out.2; simp; omega) (fun g hg => HOW.out.ge hg)
        case measure => simp [intOf]; omega
      · have HF : Hid (clsIs s c i = false) := Lib.hid (by unfold clsIs; rw [← hcl]; simpa using hcc)
        have d : (cl == c) = false := by simpa using hcc
        clear hi hg hlook hcl hcc
        go_wp2_with (first | (refine wpList_lookF rfl false _ _ rfl HM.out Try.underlying3 Try.underlying72 _ (zeroXv _) i rfl rfl HW.out _ HLK.out ?_) | (refine wpList_valG (o := ⟨some 23, .field _ _ _, _, _, _, _⟩) (.int .i64 cl) rfl (field_cl _ _ _ _ _ _ _ ce cl _ rfl) ?_))
        go_roundw
        case rel =>
          refine ⟨k + 1, a, p, cp, by omega, by go_num, rfl, Lib.hid ?_⟩
          rw [HTK.out, List.filter_append, show List.filter (clsIs s c) [i] = [] by simp [HF.out], List.append_nil]
          exact HA.out
        case measure => simp [intOf]; omega
    · obtain rfl : k = q := by omega
      clear hlt
      have hlt : ¬ k < k := by omega
      go_wp2_with (fail)
      go_ret
      have hT : s.od.take k = s.od := List.take_of_length_le (by rw [HQ.out]; exact Nat.le_refl _)
      have := HA.out
      rw [hT] at this
      obtain ⟨h1, h2, h3⟩ := this
      subst h1
      exact ⟨a, cp, rfl, h2, h3⟩
end Go.Proofs.Ythnhpmeacboljaa
