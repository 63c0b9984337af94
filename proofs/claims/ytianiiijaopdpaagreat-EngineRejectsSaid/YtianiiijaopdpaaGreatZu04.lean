/- Part 4 of 58: Count. -/
import Derived.Test.YtianiiijaopdpaaGreatZu00
import Derived.Test.YtianiiijaopdpaaGreatZu03
import Derived.DeepKeys4
namespace Go.Proofs.YtianiiijaopdpaaGreat
set_option linter.unusedVariables false
set_option linter.unusedSimpArgs false
set_option maxRecDepth 100000
set_option maxHeartbeats 8000000
open _root_.Array renaming toList_push → Ub
open _root_.Go.Instr renaming lookup → JX, mapUpdate → Gq
open _root_.List renaming getElem?_eq_getElem → Zf, getElem?_eq_some_iff → Zh, getElem?_map → ZR, mem_map → Yj, mem_of_getElem? → ZE, mem_singleton → Y5
open _root_.Go.Lit renaming int → YT
open _root_.Go.MapKept renaming run_getObj_map → Qq, run_setObj_map → VG
open _root_.Go.Result renaming andThen → Xd
open _root_.Go renaming World → Zc, run_underlying → Y3
theorem ZgI {G:Prop} (h:G:=by
  simp [Builtin.delete_,run_underlying ht,MapKept.run_getObj_map hb,K.check w _ ES,f1,MapKept.run_setObj_map _ hb,Result.andThen,setBlock]) :G:=h
section
open Go Go.RowKit Go.Maps
open Go.ChangeMaps (setBlock heap_setBlock_same heap_setBlock_other)
def Jb (w:Zc)(m:Nat)(c:Int→Int) :Prop:=
 ∃es clock,w.heap[m]?=some (.map es clock)∧(∀e ∈ es.toList,∃q:Int,(YT .i64 q).wf=true∧e.key= .int .i64 q∧e.val= .int .i64 (c q))∧(es.toList.map (·.key)).Nodup∧ ∀q,c q≠0→ ∃e ∈ es.toList,e.key= .int .i64 q
def OT (c:Int→Int)(q v:Int) :Int→Int:=fun x=>if x=q then v else c x
section
variable {P:Program} {w w':Zc} {m B:Nat} {c:Int→Int} {t k e:TypeId}
theorem Jb.lt (h:Jb w m c) :m < w.heap.size:=by
 obtain ⟨es,clock,hb,_⟩:=h;exact (Array.getElem?_eq_some_iff.1 hb).1
theorem Jb.same (h:Jb w m c)(hb:w'.heap[m]?=w.heap[m]?) :Jb w' m c:=by
 obtain ⟨es,clock,h1,h2⟩:=h;exact ⟨es,clock,hb.trans h1,h2⟩
theorem Jb.drewN (h:Jb w m c)(n:Nat) :Jb (w.drewN n) m c:=h
theorem Jb.drew (h:Jb w m c) :Jb w.drew m c:=h
theorem Jb.alloc (h:Jb w m c)(o:Obj) :Jb (w.alloc o) m c:=h.same (Below.heap_alloc w o m h.lt)
theorem Jb.grown {row:Option Nat}(h:Jb w m c)(hg:w.grownBy w' row)(Kt:some m≠row) :Jb w' m c:=h.same (hg.block m h.lt Kt)
theorem Jb.setCell (h:Jb w m c){p:Addr}(hp:m≠p.block)(u:Value) :Jb (w.setCell p u) m c:=h.same (Below.heap_setCell w p u m hp)
theorem Jb.congr {c':Int→Int}(h:Jb w m c)(hc: ∀q,c q=c' q) :Jb w m c':=by
 obtain rfl:c=c':=funext hc;exact h
theorem eo (w:Zc) :Jb (w.alloc (.map #[] 0)) w.heap.size (fun _=>0):=⟨#[],0,(MapKept.heap_alloc w _).1,by simp,by simp,fun q h=>absurd rfl h⟩
theorem Jb.keys {es:Array MapEntry}(hk:P.underlying k=some (.int .i64))(h: ∀e ∈ es.toList,∃q:Int,(YT .i64 q).wf=true∧e.key= .int .i64 q∧e.val= .int .i64 (c q)) : ∀x ∈ es.toList,∃l,keyOf P k x.key=some l:=fun x hx=>by
 obtain ⟨q,hq,h1,_⟩:=h x hx;exact ⟨_,by rw [h1]; exact keyOf_int_mk hk hq⟩
theorem Jb.lookup (h:Jb w m c)(hk:P.underlying k=some (.int .i64))(ht:P.underlying t=some (.map k e))(hz:(zeroValue e).run P w= .ok (.int .i64 0) w){q:Int}(hq:(YT .i64 q).wf=true) :
  (JX t (.map (some m)) (.int .i64 q) false).run P w= .ok (.int .i64 (c q)) w:=by
 obtain ⟨es,clock,hb,h1,h2,h3⟩:=h;have K:=int_keyed hk;have ES:=keyOf_int_mk hk hq
 rcases K.find w ES es.toList (Jb.keys hk h1) with ⟨f1,f2⟩ | ⟨j,e0,f1,f2,f3⟩
 ·have hc:c q=0:=by
   rcases Decidable.em (c q=0) with h0 | h0
   ·exact h0
   ·obtain ⟨x,hx,lX⟩:=h3 q h0;exact absurd lX (f2 x hx)
  rw [hc];simp [JX,Y3 ht,Qq hb,K.check w _ ES,f1,hz,Xd]
 ·obtain ⟨q',_,e1,e2⟩:=h1 e0 (ZE f2);rw [f3] at e1;injection e1 with _ e1;subst e1;simp [JX,Y3 ht,Qq hb,K.check w _ ES,f1,e2,Xd]
theorem Jb.update (h:Jb w m c)(hk:P.underlying k=some (.int .i64))(ht:P.underlying t=some (.map k e)){q v:Int}(hq:(YT .i64 q).wf=true) :
  ∃w',(Gq t (.map (some m)) (.int .i64 q) (.int .i64 v)).run P w= .ok () w'∧Jb w' m (OT c q v)∧w.grownBy w' (some m):=by
 obtain ⟨es,clock,hb,h1,h2,h3⟩:=h;have K:=int_keyed hk;have ES:=keyOf_int_mk hk hq;have hg: ∀es' Sf,w.grownBy (setBlock w m (.map es' Sf)) (some m):=fun es' Sf=>⟨rfl,rfl,rfl,by simp [setBlock],fun i _ hi=>heap_setBlock_other hb _ (fun e=>hi (by rw [e]))⟩
 rcases K.find w ES es.toList (Jb.keys hk h1) with ⟨f1,f2⟩ | ⟨j,e0,f1,f2,f3⟩
 ·refine ⟨setBlock w m (.map (es.push ⟨.int .i64 q,.int .i64 v,clock⟩) (clock+1)),?_,⟨_,_,heap_setBlock_same hb _,fun x hx=>?_,?_,fun q' lW=>?_⟩,hg _ _⟩
  ·simp [Gq,Y3 ht,Qq hb,K.check w false ES,f1,VG _ hb,Xd,setBlock]
  ·simp only [Ub,List.mem_append,Y5] at hx
   rcases hx with hx | rfl
   ·obtain ⟨q',w1,e1,e2⟩:=h1 x hx;have Kt:q'≠q:=by rintro rfl; exact f2 x hx e1
    exact ⟨q',w1,e1,by simp [OT,Kt,e2]⟩
   ·exact ⟨q,hq,rfl,by simp [OT]⟩
  ·rw [Ub,List.map_append,List.map_singleton];refine List.nodup_append.2 ⟨h2,by simp,fun a ha b hb'=>?_⟩;obtain ⟨x,hx,rfl⟩:=Yj.1 ha;obtain rfl:=Y5.1 hb';exact f2 x hx
  ·by_cases hqq:q'=q
   ·subst hqq;exact ⟨_,by rw [Ub]; exact List.mem_append_right _ (Y5.2 rfl),rfl⟩
   ·obtain ⟨x,hx,lX⟩:=h3 q' (by simpa [OT,hqq] using lW);exact ⟨x,by rw [Ub]; exact List.mem_append_left _ hx,lX⟩
 ·have hj:es[j]?=some e0:=by simpa using f2
  have Df:j < es.toList.length:=(Zh.1 f2).1;have zL:(es.modify j (fun e'=> { e' with key:= .int .i64 q,val:= .int .i64 v})).toList=es.toList.set j { e0 with key:= .int .i64 q,val:= .int .i64 v}:=by rw [Array.toList_modify,Go.ChangeMaps.modify_eq_set _ _ _ _ f2]
  have zK:((es.modify j (fun e'=> { e' with key:= .int .i64 q,val:= .int .i64 v})).toList.map (·.key))=es.toList.map (·.key):=by
   rw [zL,List.map_set];refine List.ext_getElem? fun i=>?_
   rw [List.getElem?_set]
   split
   ·rename_i hi
    subst hi;have hjs:j < es.size:=by simpa using Df
    have zI:es.toList[j]'Df=e0:=by simpa [Zf Df] using f2
    simp [hjs];simp at zI;rw [zI,f3]
   ·rfl
  refine ⟨setBlock w m (.map (es.modify j (fun e'=> { e' with key:= .int .i64 q,val:= .int .i64 v})) clock),?_,⟨_,_,heap_setBlock_same hb _,fun x hx=>?_,by rw [zK]; exact h2,fun q' lW=>?_⟩,hg _ _⟩
  ·simp [Gq,Y3 ht,Qq hb,K.check w false ES,f1,hj,f3,K.stays w ES,VG _ hb,Xd,setBlock]
  ·rw [zL] at hx;obtain ⟨i,hi,ex⟩:=List.getElem_of_mem hx;rw [List.getElem_set] at ex
   split at ex
   ·subst ex;exact ⟨q,hq,rfl,by simp [OT]⟩
   ·rename_i Kt
    have Mh:i < es.toList.length:=by simpa using hi
    obtain ⟨q',w1,e1,e2⟩:=h1 x (ex▸List.getElem_mem Mh);have hne':q'≠q:=by
     rintro rfl;have hn:=List.pairwise_iff_getElem.1 h2;have a1:(es.toList.map (·.key))[i]?=some (.int .i64 q'):=by rw [ZR,Zf Mh,ex]; simp [e1]
     have a2:(es.toList.map (·.key))[j]?=some (.int .i64 q'):=by rw [ZR,f2]; simp [f3]
     obtain ⟨l1,e3⟩:=Zh.1 a1;obtain ⟨l2,e4⟩:=Zh.1 a2
     rcases Nat.lt_or_gt_of_ne Kt with XJ | XJ
     ·exact hn j i l2 l1 XJ (e4.trans e3.symm)
     ·exact hn i j l1 l2 XJ (e3.trans e4.symm)
    exact ⟨q',w1,e1,by simp [OT,hne',e2]⟩
  ·have dH:(.int .i64 q':Value) ∈ es.toList.map (·.key):=by
    by_cases hqq:q'=q
    ·subst hqq;exact Yj.2 ⟨e0,ZE f2,f3⟩
    ·obtain ⟨x,hx,lX⟩:=h3 q' (by simpa [OT,hqq] using lW);exact Yj.2 ⟨x,hx,lX⟩
   rw [←zK] at dH;obtain ⟨x,hx,lX⟩:=Yj.1 dH;exact ⟨x,hx,lX⟩
theorem Jb.delete (h:Jb w m c)(hk:P.underlying k=some (.int .i64))(ht:P.underlying t=some (.map k e)){q:Int}(hq:(YT .i64 q).wf=true)(h0:c q=0)(ty:TypeId) :
  ∃w',(Builtin.delete_ #[t,k] ty #[.map (some m),.int .i64 q]).run P w= .ok (.tuple #[]) w'∧Jb w' m c∧w.grownBy w' (some m):=by
 obtain ⟨es,clock,hb,h1,h2,h3⟩:=h;have K:=int_keyed hk;have ES:=keyOf_int_mk hk hq;have hg: ∀es' Sf,w.grownBy (setBlock w m (.map es' Sf)) (some m):=fun es' Sf=>⟨rfl,rfl,rfl,by simp [setBlock],fun i _ hi=>heap_setBlock_other hb _ (fun e=>hi (by rw [e]))⟩
 rcases K.find w ES es.toList (Jb.keys hk h1) with ⟨f1,f2⟩ | ⟨j,e0,f1,f2,f3⟩
 ·refine ⟨setBlock w m (.map es clock),?_,⟨_,_,heap_setBlock_same hb _,h1,h2,h3⟩,hg _ _⟩;exact ZgI
 ·have Df:j < es.toList.length:=(Zh.1 f2).1;have hjs:j < es.size:=by simpa using Df
  have Zcb:(es.eraseIdxIfInBounds j).toList=es.toList.eraseIdx j:=by
   unfold Array.eraseIdxIfInBounds;rw [dif_pos hjs];simp
  refine ⟨setBlock w m (.map (es.eraseIdxIfInBounds j) clock),?_,⟨_,_,heap_setBlock_same hb _,fun x hx=>?_,?_,fun q' lW=>?_⟩,hg _ _⟩
  ·exact ZgI
  ·rw [Zcb] at hx;exact h1 x ((List.eraseIdx_sublist _ _).subset hx)
  ·rw [Zcb];exact h2.sublist ((List.eraseIdx_sublist _ _).map _)
  ·obtain ⟨x,hx,lX⟩:=h3 q' lW;refine ⟨x,?_,lX⟩;rw [Zcb];obtain ⟨i,hi⟩:=List.mem_iff_getElem?.1 hx;refine List.mem_eraseIdx_iff_getElem?.2 ⟨i,?_,hi⟩;rintro rfl;rw [f2] at hi;injection hi with hi;rw [←hi,f3] at lX;injection lX with _ lX;subst lX;exact lW h0
end
section
variable {P:Program} {ops:Array Oper} {rest:List Oper} {o:Oper} {a:Act} {w:Zc} {Q:Exit→Act→Zc→Prop} {b:Nat} {c:Int→Int} {t k e:TypeId}
theorem NY (BU:o.guard=none)(m x v:Operand)(ho:o.op= .mapUpdate t m x v)(h:Jb w b c)(hk:P.underlying k=some (.int .i64))(ht:P.underlying t=some (.map k e))(q n:Int)(hm:a.eval m= .map (some b))(hx:a.eval x= .int .i64 q)(hv:a.eval v= .int .i64 n)(hq:(YT .i64 q).wf=true)
  (hK: ∀w',Jb w' b (OT c q n)→w.grownBy w' (some b)→wpList P ops Q rest (a.put o.dst undef) w') :wpList P ops Q (o::rest) a w:=by
 refine wpList_plain BU fun K' hK'=>?_
 obtain ⟨w',Bd,r1,r2⟩:=h.update hk ht hq (v:=n);unfold Oper.wp;simp [execOp,ho,hm,hx,hv,Bd,Xd];exact hK' _ _ (hK w' r1 r2)
theorem TS (BU:o.guard=none)(m x:Operand)(ho:o.op= .call { callee:= .builtin .delete,args:= #[m,x],argTypes:= #[t,k]})(h:Jb w b c)(hk:P.underlying k=some (.int .i64))(ht:P.underlying t=some (.map k e))(q:Int)(hm:a.eval m= .map (some b))(hx:a.eval x= .int .i64 q)(hq:(YT .i64 q).wf=true)(h0:c q=0)
  (hK: ∀w',Jb w' b c→w.grownBy w' (some b)→wpList P ops Q rest (a.put o.dst (.tuple #[])) w') :wpList P ops Q (o::rest) a w:=by
 refine wpList_plain BU fun K' hK'=>?_
 obtain ⟨w',Bd,r1,r2⟩:=h.delete hk ht hq h0 o.type;unfold Oper.wp;simp [execOp,ho,resolve,invoke,builtin,hm,hx,Bd,Xd];exact hK' _ _ (hK w' r1 r2)
theorem If {C:Zc→Prop}{Qa:Act→Prop}(m x:Operand)(hw:Region.wanted o (yielded ops a.tmps)=true)(ho:o.op= .lookup t m x false)(hC: ∀w,C w→Jb w b c)(hk:P.underlying k=some (.int .i64))(ht:P.underlying t=some (.map k e))(hz: ∀w,(zeroValue e).run P w= .ok (.int .i64 0) w)(q:Int)(hm:a.eval m= .map (some b))(hx:a.eval x= .int .i64 q)(hq:(YT .i64 q).wf=true)
  (h:wpQuiet P ops C Qa rest (a.put o.dst (.int .i64 (c q)))) :wpQuiet P ops C Qa (o::rest) a:=by
 unfold wpQuiet;rw [if_pos hw];refine ⟨_,fun w hc=>?_,h⟩;have Bd:=(hC w hc).lookup hk ht (hz w) hq;unfold Oper.quietAt execOp;simp only [ho,hm,hx,Sem.run_bind,Bd,Result.andThen_ok,Sem.run_pure];exact BV
end
end
end Go.Proofs.YtianiiijaopdpaaGreat
