/- The Go function egress/egresslaw22.EngineConserves returns true for every input, and leaves its arguments as they were. Conditions: none but the statement's own. -/
import Derived.Test.YtianiiijaopdpaaGreatZu00
import Derived.Test.YtianiiijaopdpaaGreatZu02
import Derived.Test.YtianiiijaopdpaaGreatZu55
import Derived.ShutString
namespace Go.Proofs.YtianiiijaopdpaaGreat
set_option linter.unusedVariables false
set_option linter.unusedSimpArgs false
set_option maxRecDepth 100000
set_option maxHeartbeats 8000000
open _root_.Go.DataW renaming trod_lt → Gd
open _root_.Go.Proofs.Tryz renaming checked → KW, prog → Zb
section
open Go Go.ChangeShapes Go.WideShapes Go.ChangeAt Go.RowKit
open Go.ChangeMaps (open_string shut_string)
theorem own:ownKnob Tryz.prog.godebug=none:=ee
theorem laidOut:laidOutB Zb=true:=LD
theorem SP (os:Os)(started:os.Started)(H:Type)(enc:TypeId × Value→H) :
  ReturnsInHanded {} KW os 5 .any (Rows.engineConservesSpec.pre6 enc Zb Tryz.f5 Rows.engineConservesRow.domain false) (Rows.engineConservesSpec.post enc Zb Tryz.f5 false true false false):=by
 refine returnsInHanded_of_change (C:=KW) own started (by as_aux_lemma=>kernel_rfl) Tryz.func5
  (ChangeSpec.witness6 (enc:=enc) (C:=KW) false ⟨#[],#[.agg (Zk (fun _=>0)),.slice none 0 0],[]⟩ 8 (by as_aux_lemma=>kernel_rfl) (by as_aux_lemma=>kernel_rfl) (by as_aux_lemma=>kernel_rfl) (by as_aux_lemma=>kernel_rfl)) ?_
 intro W base args ds gs before hval0 hW hcnd Du;have SJ: ∀(j:Nat) t v,Tryz.f5.params[j]?=some t→args[j]?=some v→Value.okWide Zb W .any base t v:=hval0;have hW':=hW;obtain ⟨p,q,MD,hV,rfl,hfz,tP⟩:=hW;have hA:DataW.TrodAll enc Zb W 0 (fun _=>true) true Tryz.f5.params.toList args.toList ds p:=MD;rw [Tryz.params5] at hA SJ;obtain ⟨v0,vs0,d0,ds0,p0,q0,zA,rfl,rfl,h0,r0⟩:=trodAll_cons hA;obtain ⟨v1,vs1,d1,ds1,p1,q1,rfl,rfl,rfl,h1,r1⟩:=trodAll_cons r0;obtain ⟨rfl,rfl,rfl⟩:=trodAll_nil r1;obtain rfl:args= #[v0,v1]:=by cases args; simp_all
 obtain ⟨rfl,rfl⟩:=trodVars_none hV;obtain ⟨a0,rfl,w0⟩:=open_T24 (SJ 0 24 v0 rfl rfl) h0;have k0:=h0;have lt0: ∀x ∈ p0,x.block < W.heap.size:=by obtain ⟨m,hm⟩:=k0; exact Gd m _ _ _ hm
 obtain ⟨a1,Vd,cap1,rfl,w1⟩:=open_S25 (SJ 1 25 v1 rfl rfl) h1;have k1:=h1;have lt1: ∀x ∈ p1,x.block < W.heap.size:=by obtain ⟨m,hm⟩:=k1; exact Gd m _ _ _ hm
 clear MD hval0;refine (Lv a0 a1 Vd cap1 W w0 w1).mono fun e W' ⟨he,oM⟩=>?_
 subst he;exact ⟨_,rfl,_,_,_,[],_,[],hW',trodAll_mk1 (shut_bool Tryz.underlying4 _),(trodAll_cons_mk (Below.trod laidOut (by as_aux_lemma=>kernel_rfl) (of_decide_eq_true (by as_aux_lemma=>kernel_rfl)) k0 oM lt0) (trodAll_cons_mk (Below.trod laidOut (by as_aux_lemma=>kernel_rfl) (of_decide_eq_true (by as_aux_lemma=>kernel_rfl)) k1 oM lt1) trodAll_mk0)),rfl,oM.frame _,fun h=>by cases h⟩
theorem Yt {a b:Bool}(ha:a=true)(hb:b=true) :(a&&b)=true:=by rw [ha,hb]; rfl
theorem Sh:joinedFacts Zb 5 Tryz.f5 Rows.engineConservesSpec Rows.engineConservesRow=true:=by
 unfold joinedFacts;exact (Yt (Yt (Yt (Yt (Yt (Yt (Yt (Yt (Yt (Yt (Yt (Yt (Yt (Yt (Yt (Yt (Yt (Yt (Yt (Yt (Yt (Yt (Yt (Yt (Yt (Yt (Yt (Yt (Yt (Yt (Yt (by as_aux_lemma=>kernel_rfl) LD) Cr) (by as_aux_lemma=>kernel_rfl)) (by as_aux_lemma=>kernel_rfl)) (by as_aux_lemma=>kernel_rfl)) R6) (by as_aux_lemma=>kernel_rfl)) R0) (by as_aux_lemma=>kernel_rfl)) (by as_aux_lemma=>kernel_rfl)) (by as_aux_lemma=>kernel_rfl)) (by as_aux_lemma=>kernel_rfl)) (by as_aux_lemma=>kernel_rfl)) (by as_aux_lemma=>kernel_rfl)) (by as_aux_lemma=>kernel_rfl)) (by as_aux_lemma=>kernel_rfl)) (by as_aux_lemma=>kernel_rfl)) (by as_aux_lemma=>kernel_rfl)) (by as_aux_lemma=>kernel_rfl)) (by as_aux_lemma=>kernel_rfl)) (by as_aux_lemma=>kernel_rfl)) Co) (by as_aux_lemma=>kernel_rfl)) RZ) RY) Cp) Cq) (by as_aux_lemma=>kernel_rfl)) (by as_aux_lemma=>kernel_rfl)) (by as_aux_lemma=>kernel_rfl)) (by as_aux_lemma=>kernel_rfl))
theorem rm:Rows.engineConservesRow.holds Tryz.pinned (OpenSpec.ofChange Rows.engineConservesSpec):=
 OpenClaim.holds_of_wide 5 Tryz.f5 rfl rfl rfl rfl rfl rfl rfl ⟨rfl,rfl,rfl,rfl,rfl⟩ rfl rfl rfl rfl rfl (by as_aux_lemma=>kernel_rfl) Tryz.func5 Sh
  (of_decide_eq_true (by as_aux_lemma=>kernel_rfl)) (by unfold Func.isWrapper; first | (rw [if_pos (by decide+kernel)]; kernel_rfl) | (rw [if_neg (by decide+kernel)]; exact ⟨rfl,rfl⟩))
  (fun os started H enc _=>SP os started H enc)
theorem proved:Rows.EngineConservesSaid:=rm
end
end Go.Proofs.YtianiiijaopdpaaGreat
