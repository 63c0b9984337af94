/- Part 15 of 34: L08Due L14Now L08DueB L21Rc L21Make WrapO L17Req L17Apply L17Pay L17Rec L17Collect L17Step L03CheckC Sx Cat. -/
import Derived.Test.YtobgbcdgffgdhaaGreatZx00
import Derived.Test.YtobgbcdgffgdhaaGreatZx14
import Derived.Lib.AppendZerosOnto
namespace Go.Proofs.YtobgbcdgffgdhaaGreat
set_option linter.unusedVariables false
set_option linter.unusedSimpArgs false
set_option maxRecDepth 100000
set_option maxHeartbeats 8000000
open _root_.And renaming intro -> Zm
open _root_.Array renaming all_eq_true_iff_forall_mem -> ZQ
open _root_.Go.RowKit renaming Below -> Zp
open _root_.Go.RowKit.Below renaming heap_setCell -> Xr, refl -> Zn
open _root_.Go.Proofs.YtobgbcdgffgdhaaGreat.Zu renaming ne_ -> JV, new -> Zs
open _root_.Go.Builtin renaming zeroCells -> Y3
open _root_.Go renaming Calls -> Zv, Operand -> YW, Value -> Zl, World -> Zc, below_setRow -> Xw, bodyPost_ret -> Ye, heap_alloc_new -> ZB, maxLen -> XL, results_cell_row -> YF, rounds_succ -> Xi, setRow_heap -> YH, wpList -> Y2, wpList_store_row -> YQ
open _root_.Go.Instr renaming index -> Yy
open _root_.Go.IntKind renaming bits -> Vd, signed -> J8
open _root_.Go.Proofs.YtobgbcdgffgdhaaGreat.ZA renaming of_below -> Y9, of_grown -> XF, refl -> ZS, setCells -> QP
open _root_.List renaming filter_append -> Q7, getElem?_eq_getElem -> Zg, getElem?_eq_some_iff -> Zk, length_append -> ZI, length_take -> Xl, mem_cons -> ZX, mem_of_getElem? -> Zz, not_mem_nil -> Yk
open _root_.Nat renaming le_refl -> Zh, zero_add -> ZW, zero_le -> XY
open _root_.Option.some renaming injEq -> QW
open _root_.Go.Proofs.YtobgbcdgffgdhaaGreat.Py renaming row -> V9
open _root_.Go.Proofs.Tryz renaming prog -> Zb
open _root_.Go.Value renaming int -> ZG, ownBlock -> YZ, slice -> Ys
open _root_.Go.World.ownsRow renaming alloc -> X5
open _root_.Go.World renaming ownsRow_nil -> Y4, setRow_alloc_new -> Zq
open Go.Proofs.Tryz
theorem Ly {G:Prop}(h:G:=by simpa using hs) :G:=h
theorem Zgl {G:Prop} (h:G:=by
  go_wp2;go_ret;exact ⟨congrArg (fun x=>Ending.returned (.int .i64 x)) E.o.symm,K2.o.2.1⟩) :G:=h
theorem Zgm {G:Prop} (h:G:=by
  go_wp2;go_ret;exact ⟨congrArg (fun x=>Ending.returned (.int .u64 x)) E.o.symm,T.o.2.2⟩) :G:=h
theorem Zmb {G:Prop} (h:G:=by
  clear hb hn h0 hi hv E0 hs;go_enter func134,ntmps134;go_upto_region 1 with (fail);generalize w.alloc (.cells (ZF r) 119)=W at*;go_wp2_with (first | (refine Kl 119 w.heap.size HK.o.1 underlying119 Jq ?_));refine (HK.o.call (HW.o _)).mono ?_;rintro e w1 ⟨rfl,k1'⟩;have K1:=Za k1';clear k1' HK;go_wp2_with (first | (refine Kl 119 w.heap.size K1.o.1 underlying119 Jq ?_));refine (K1.o.call (HE.o _)).mono ?_;rintro e w2 ⟨rfl,k2'⟩;have K2:=Za k2';clear k2' K1;obtain ⟨b,off,rfl,hr⟩:=(HL.o.below K2.o.2.1).at HV.o;have x1:w2.cell? ⟨b,off+i*7+1,none⟩=some (.int .i64 v.st):=hr 1 _ rfl;have x0:w2.cell? ⟨w.heap.size,0,none⟩=some (.int .i64 (i:Int)):=(K2.o.1.cell 0).trans (by rw [<-HX.o]; rfl);clear hr;exact Zgl) :G:=h
theorem Zmp {G:Prop} (h:G:=by
  clear hs hl hv hm hb;go_enter func292,ntmps292;go_upto_region 1 with (fail);generalize (w.alloc (.cells (Ze v) 68)).alloc (.cells (Zi c) 30)=W at*;obtain ⟨x0,x1,x2,x3⟩:=T.o.cells;rw [HL.o] at x2;go_wp2_with fail;refine (HS.o _).mono ?_;rintro e w1 ⟨rfl,rfl⟩;exact Zgm) :G:=h
theorem Zmr {G:Prop} (h:G:=by
  obtain ⟨b,off,e,_,_,hc⟩:=hM h0;refine ⟨_,e,fun j u hu=>?_⟩;rw [List.getElem?_map] at hu;have hj:j < M.length:=by
   rcases Nat.lt_or_ge j M.length with h | h
   ·exact h
   ·rw [List.getElem?_eq_none h] at hu; cases hu
  rw [List.getElem?_eq_getElem hj] at hu;injection hu with hu;rw [add_plain,hc j hj,<-hu,List.getD_eq_getElem?_getD,List.getElem?_eq_getElem hj];rfl) :G:=h
theorem Zmt {G:Prop} (h:G:=by
  refine GD ?_;refine ⟨by kernel_rfl,?_⟩;refine LA ?_;go_wp2;refine U1 ?_;go_wp2_with fail;go_meet;exact ⟨_,rfl,rfl,Z⟩) :G:=h
theorem ZmM {G:Prop} (h:G:=by
  clear hx;go_enter func192,ntmps192;go_upto_region 1 with (fail);generalize w.alloc (.cells (ZF r) 119)=W at*;have x0:=Xx HB.o.1 0;go_wp2;go_ret;exact ⟨Uo E.o.symm,HB.o.2⟩) :G:=h
theorem ZmO {G:Prop} (h:G:=by
  exact bodyPost_ret (results_cell_row rfl _ _ (w.heap.size+1) 53 _ (0,0) _ rfl (setRow_heap _ _ _ _ _ _ KZ.o) underlying53 rfl Vs) rfl ⟨rfl,below_setRow B0.o Zf _⟩) :G:=h
theorem Zfj {G:Prop} (h:G:=by
  exact Zgm) :G:=h
theorem Zfl {G:Prop} (h:G:=by
  simp [Instr.alloc,sizeOf,zeroValue,typeInfo,hi,hz,hs,newRow,go_sem,Value.cells]) :G:=h
theorem ZfO {G:Prop} (h:G:=by
  go_enter func299,ntmps299;go_wp2;go_ret2;exact ⟨rfl,rfl⟩) :G:=h
theorem zC {G:Prop} (h:G:=by
  rw [List.length_append,List.map_append];exact h1) :G:=h
section
open Go Go.RowKit Go.Deep
section
variable {ops:Array Oper} {rest:List Oper} {o:Oper} {a:Act} {w:Zc} {Q:Exit->Act->Zc->Prop}
theorem Is (DD:o.guard=none)(x:YW)(ho:o.op= .buildSlice 165 1 #[(0,x)])(v:QZ)(hx:a.eval x= .agg (JO v))
  (h:Y2 Zb ops Q rest (a.put o.dst (.slice (some ⟨w.heap.size,0,none⟩) 1 1)) (w.alloc (.cells (JO v) 271))) :Y2 Zb ops Q (o::rest) a w:=
 wpList_plain DD fun _ hK=>JB 165 271 x _ (.int .i64 v.1) (.int .i64 v.2) ho hx underlying165 IP (hK _ _ h)
theorem P2 (DD:o.guard=none)(s x:YW)(ho:o.op= .call { callee:= .builtin .append,args:= #[s,x],argTypes:= #[165,165]})
  (g r cp q:Nat) (v:QZ) (hs:a.eval s= .slice (some ⟨g,0,none⟩) r cp) (hx:a.eval x= .slice (some ⟨q,0,none⟩) 1 1) (hq: ∀j u,(DG v)[j]?=some u->w.cell? ((⟨q,0,none⟩ :Addr).add j)=some u) (hr:r+1<=cp) (ht:w.there g (r*2) 2)
  (h:Y2 Zb ops Q rest (a.put o.dst (.slice (some ⟨g,0,none⟩) (r+1) cp)) (w.setCells g (r*2) (DG v))) :Y2 Zb ops Q (o::rest) a w:=by
 refine wpList_plain DD fun K hK=>?_
 obtain ⟨i,hi,hz,bV,Ns⟩:=bH;have BJ:=run_append_room_cells (P:=Zb) w 165 o.type 271 i underlying165 hi g 0 r cp ⟨q,0,none⟩ 1 1 (DG v) (by rw [bV]; rfl) hq (Ov v) hr
  (fun j hj=>by rw [bV,ZW]; exact (ht j hj).1) (fun j hj=>by rw [bV,ZW]; exact (ht j hj).2)
 rw [bV,ZW] at BJ;unfold Oper.wp;simp [execOp,ho,resolve,invoke,builtin,hs,hx,BJ,Result.andThen];exact hK _ _ h
end
def GB (ep:Int)(l:List QZ) :List QZ:=l.filter fun e=>!(e.1==ep)
def Vr (ep:Int)(l:List QZ) :List Int:=(l.filter fun e=>e.1==ep).map (·.2)
theorem NB (ep:Int)(l:List QZ)(x:QZ) :GB ep (l++[x])=if x.1=ep then GB ep l else GB ep l++[x]:=by
 unfold GB;rw [Q7]
 by_cases h:x.1=ep <;> simp [h]
theorem IT (ep:Int)(l:List QZ)(x:QZ) :Vr ep (l++[x])=if x.1=ep then Vr ep l++[x.2] else Vr ep l:=by
 unfold Vr;rw [Q7,List.map_append]
 by_cases h:x.1=ep <;> simp [h]
theorem vj (ep:Int)(l:List QZ) :(Vr ep l).length<=l.length:=by unfold Vr; rw [List.length_map]; exact List.length_filter_le _ _
theorem fo {l:List QZ}{k:Nat}{v:QZ}(h:l[k]?=some v) :l.take (k+1)=l.take k++[v]:=pA
structure nb (w0 w:Zc)(g cp q k r:Nat)(ep:Int)(l:List QZ)(v:Zl) :Prop where
 len:(GB ep (l.take k)).length=r
 row:dR w g cp q (GB ep (l.take k)++l.drop r)
 o:w.ownsRow w0.heap.size 3 1 v (Vr ep (l.take k)).length ((Vr ep (l.take k)).map (ZG .i64))
 kept:ZA (fun i=>i=g) w0 w
def OT (w:Zc)(b B n j:Nat)(ss:List Zl)(s:Zl)(L:List QZ)(ep:Int)(e:Ending)(w':Zc) :Prop:=
 ∃v s',e= .returned v/\w'.ownsRow w.heap.size 3 1 v (Vr ep L).length ((Vr ep L).map (ZG .i64))/\Vj w' b B n (ss.set j s') (GB ep L)/\s'.ownBlock=s.ownBlock/\ZA (fun i=>i=B\/s.ownBlock=some i) w w'
theorem fj {w w3:Zc}{b B n j:Nat}{s s':Zl}{ss:List Zl}{L:List QZ}{ep:Int}(h:Vj w b B n ss L)(hs:ss[j]?=some s)(hj:ep%(n:Int)=(j:Int))
  (hk:ZA (fun i=>s.ownBlock=some i) w w3) (ho:w3.ownsRow 0 271 2 s' (GB ep (bk n L j)).length (Qf (GB ep (bk n L j)))) (hn:s'.ownBlock=s.ownBlock) :
  Vj (w3.setCell ⟨B,j,none⟩ s') b B n (ss.set j s') (GB ep L):=by
 have Hy:=h.not hs;have hBk:w3.heap[B]?=w.heap[B]?:=hk.block B h.bks.lt Hy.2;have e1:bk n (GB ep L) j=GB ep (bk n L j):=IE n L j _;refine h.upd hs ?_ ?_ (fun i t hij ht q hq=>?_) ?_ (fun i hi=>?_) (.inl hn) (fun x hx=>h.ok x (List.mem_filter.1 hx).1)
 ·exact ZfN
 ·exact Ze6
 ·exact ZmT
 ·rw [e1];exact Gm (w:=w3) ho (fun q hq=>Xr _ _ _ _ (fun e=>Hy.2 (by rw [<-hn,hq,e])))
 ·rw [show bk n (GB ep L) i=GB ep (bk n L i) from IE n L i _];exact ur hj hi L
theorem nM {n j:Nat}{ep:Int}(h:ep%(n:Int)=(j:Int))(L:List QZ) :Vr ep (bk n L j)=Vr ep L:=by
 unfold Vr;rw [uo h]
theorem ZbD (b B n j g cp:Nat)(ss:List Zl)(L:List QZ)(ep:Int)(w:Zc)(h:Vj w b B n ss L)(hs:ss[j]?=some (.slice (some ⟨g,0,none⟩) (bk n L j).length cp))(h0:0<=ep)(h1:ep<=1099511627776)(hj:ep%(n:Int)=(j:Int))(hL:L.length<=100000) :
  Zv Zb 234 #[.pointer (some ⟨b,0,none⟩),.int .i64 ep] w (OT w b B n j ss (.slice (some ⟨g,0,none⟩) (bk n L j).length cp) L ep):=by
 have Ei:j < n:=zj
 have GA:=h.row j _ hs;have hq:=bu n L j;obtain ⟨x0,x1⟩:=h.cells hs;have Hy:=h.not hs;have vC:=(MR GA).2.1;have vD:=(MR GA).2.2.1;unfold XL at vD;have HN:=Za (On b n j n (some ⟨B,0,none⟩) ep w x0 h.pos h.top h0 h1 hj);have hgb:g≠b:=fun e=>Hy.1 (by rw [e]; rfl)
 have hgB:g≠B:=fun e=>Hy.2 (by rw [e]; rfl)
 have hBl:=h.bks.lt;have HH:=Za h;have HS:=Za hs;have HJ:=Za hj;obtain ⟨l,hl⟩:=ZR (bk n L j);rw [hl] at GA hq vC x1 HS ⊢;obtain ⟨q,wg⟩:=ZR (l.length);rw [wg] at GA hq vC x1 HS ⊢;have H0:Zj (nb w w g cp q 0 0 ep l (.slice none 0 0)):=Za ⟨rfl,by simpa [GB] using MR GA,Y4 _ _ _ _,ZS _ _⟩;have HLL:=Za (Zm hl wg);have hj1: ¬(j:Int)< 0:=Zf;have hj2: ¬(n:Int)<=(j:Int):=Zf;have hj3:(j:Int)< (n:Int):=Zf;have hn4:n<=4096:=h.top;have X0:=Za x0;have X1:=Za x1;clear h hs GA Hy hj hl wg;obtain ⟨i0,Oi,GO,Ty,RF⟩:=Gj;go_enter func234,ntmps234;go_wp2_with fail;refine HN.o.mono ?_;rintro e w' ⟨rfl,rfl⟩;clear HN;go_wp2_with fail;go_loopw [7,8,35] (fun s7 s8 s35 wr=> ∃k r:Nat,r<=k/\k<=q/\s35= .int .i64 k/\s8= .slice (some ⟨g,0,none⟩) r cp/\Zj (nb w wr g cp q k r ep l s7)) (fun _ _ s35 _=>q -(intOf s35).toNat)
 case atStart=>exact ⟨0,0,by omega,by omega,rfl,rfl,H0⟩
 case round=>
  clear H0 x0 x1;obtain ⟨k,r,hrk,hk,rfl,rfl,HD⟩:=hrel
  by_cases XJ:k < q
  ·obtain ⟨x,hx⟩ : ∃x,l[k]?=some x:=⟨_,Zg (by have:=HLL.o.2; omega)⟩;have hd:=HD.o;have HRX:Zj (wr.rangeAt g (k*2) (DG x)):=Za (hd.row.at (by
    rw [List.getElem?_append_right (by have:=hd.len; omega),hd.len,List.getElem?_drop,show r+(k - r)=k by omega];exact hx))
   have HE:Zj (Zu (wr.alloc (.cells (JO x) 271)) wr.heap.size 271 (JO x)):=Za (Zs _ _ _);have c0:(wr.alloc (.cells (JO x) 271)).cell? ⟨wr.heap.size,0,none⟩=some (.int .i64 x.1):=HE.o.cell 0;have c1:(wr.alloc (.cells (JO x) 271)).cell? ⟨wr.heap.size,1,none⟩=some (.int .i64 x.2):=HE.o.cell 1;have HX:=Za hx;have TU: ¬(k:Int)< 0:=Zf;have q9: ¬(q:Int)<=(k:Int):=Zf;have tv:(k:Int)< (q:Int):=Zf;have hgl:=hd.row.lt;have hws:=hd.kept.size;have fV:=vj ep (l.take k);have hgo2:(l.take k).length<=k:=by rw [Xl]; omega
   clear hd hx
   by_cases heq:x.1=ep
   ·have Hj:(x.1==ep)=true:=by simpa using heq
    have HEQ:=Za heq;clear heq;go_wp2_with (first | (refine DT rfl 271 _ rfl g (k*2) rfl x _ HRX.o underlying271 rfl MC ?_) | (refine Up wr.heap.size (JO x) 271 (ZB wr _) MC (WD x) ?_; rw [Zq]) | (at_builtin; (refine YR _ rfl (.tmp 43) (.tmp 46) 24 rfl w.heap.size 3 i0 _ 1 8 underlying24 Oi GO Ty RF rfl Nat.one_pos u7 (Vr ep (l.take k)).length _ rfl ((HD.o.o.alloc _).alloc _) (some ⟨wr.heap.size+1,0,none⟩) 1 1 [.int .i64 x.2] rfl rfl (fun _=>⟨_,rfl,by have:=cell_one_new (wr.alloc (.cells (JO x) 271)) (.int .i64 x.2) 3; rwa [World.size_alloc] at this⟩) BW Vx Zf Xo ?_; intro v1 w1 ho hg Al)));have hZ:nb w w1 g cp q (k+1) r ep l v1:=by
     have hd:=HD.o;have et:=fo HX.o;have k1:ZA (fun i=>u7.ownBlock=some i) wr w1:=((ZS _ wr).alloc _).alloc _ |>.trans (XF hg (S:=fun i=>u7.ownBlock=some i) (fun i hi=>hi.symm)) (fun _ _ h=>h);have Kj: ∀i,u7.ownBlock=some i->w.heap.size<=i:=fun i hi=>(hd.o.lt i hi).1
     have hgw:g < w.heap.size:=by
      have:=HH.o.row j _ HS.o;exact (this.lt g rfl).2
     refine ⟨by rw [et,NB,if_pos HEQ.o]; exact hd.len,?_,?_,?_⟩
     ·rw [et,NB,if_pos HEQ.o];exact hd.row.same (k1.block g hd.row.lt (fun h=>by have:=Kj g h; omega))
     ·rw [et,IT,if_pos HEQ.o];simpa using ho
     ·exact hd.kept.trans (k1.more (T:=fun i=>w.heap.size<=i) (fun i _ h=>Kj i h)) (fun i hi h=>by omega)
    have HZ:=Za hZ;clear ho hg Al hZ HD HRX HE c0 c1;go_wp2;go_roundw
    case rel=>exact ⟨k+1,r,by omega,by omega,by go_num,rfl,HZ⟩
    case measure=>exact KX
   ·have Hj:(x.1==ep)=false:=by simpa using heq
    have HEQ:=Za heq;have HT:Zj (((wr.alloc (.cells (JO x) 271)).alloc (.cells (JO x) 271)).there g (r*2) 2/\nb w (((wr.alloc (.cells (JO x) 271)).alloc (.cells (JO x) 271)).setCells g (r*2) (DG x)) g cp q (k+1) (r+1) ep l u7):=Za (by
     have hd:=HD.o;have et:=fo HX.o;have hB:Zp wr.heap.size wr ((wr.alloc (.cells (JO x) 271)).alloc (.cells (JO x) 271)):=((Zn _ _).alloc (Zh _) _).alloc ZE _;have Zez:=hd.row.below hB;have hrl:r < l.length:=by have:=HLL.o.2; omega
     have hgw:g < w.heap.size:=by
      have:=HH.o.row j _ HS.o;exact (this.lt g rfl).2
     rw [List.drop_eq_getElem_cons hrl] at Zez;obtain ⟨t1,t2⟩:=Zez.set hd.len x;refine ⟨t2,⟨by rw [et,NB,if_neg HEQ.o,ZI,hd.len]; rfl,?_,?_,?_⟩⟩
     ·rw [et,NB,if_neg HEQ.o];simpa using t1
     ·rw [et,IT,if_neg HEQ.o];refine Gm ((hd.o.alloc (.cells (JO x) 271)).alloc (.cells (JO x) 271)) (fun i hi=>?_);have FX:=(hd.o.lt i hi).1;have kk:ZA (fun i=>i=g) ((wr.alloc (.cells (JO x) 271)).alloc (.cells (JO x) 271)) (((wr.alloc (.cells (JO x) 271)).alloc (.cells (JO x) 271)).setCells g (r*2) (DG x)):=QP _ _ _ (ZS _ _) (.inl rfl);exact kk.block i (by have:=(hd.o.lt i hi).2; simp; omega) (fun e=>by have e:i=g:=e; omega)
     ·exact QP _ _ _ ((hd.kept.alloc _).alloc _) (.inl rfl))
    have hq2:r+1<=cp:=Zf;clear heq;go_wp2_with (first | (refine DT rfl 271 _ rfl g (k*2) rfl x _ HRX.o underlying271 rfl MC ?_) | (refine Up wr.heap.size (JO x) 271 (ZB wr _) MC (WD x) ?_; rw [Zq]) | (refine DT rfl 271 _ rfl wr.heap.size 0 rfl x _ HE.o.range underlying271 rfl MC ?_) | (refine Is rfl _ rfl x rfl ?_) | (at_builtin; refine P2 rfl (.tmp 48) (.tmp 50) rfl g r cp (wr.alloc (.cells (JO x) 271)).heap.size x rfl rfl (oe (wr.alloc (.cells (JO x) 271)) x 271) hq2 HT.o.1 ?_));go_roundw
    case rel=>exact ⟨k+1,r+1,by omega,by omega,by go_num,rfl,Za HT.o.2⟩
    case measure=>exact KX
  ·obtain rfl:k=q:=Zf;have hd:=HD.o;have e1:=HLL.o;have fY:ZA (fun i=>(Ys (some ⟨g,0,none⟩) k cp).ownBlock=some i) w wr:=hd.kept.more (fun i _ h=>by rw [h]; rfl);have y0:=hd.kept.cell (p:=⟨b,0,none⟩) (fun e=>hgb e.symm) X0.o;have y1:=hd.kept.cell (p:=⟨B,j,none⟩) (fun e=>hgB e.symm) X1.o;have z1:wr.frozen? ⟨B,j,none⟩=false:=by
    rw [hd.kept.frozen (p:=⟨B,j,none⟩) (fun e=>hgB e.symm) hBl];exact HH.o.bks.frozen j
   have HP:Zj (OT w b B n j ss (.slice (some ⟨g,0,none⟩) k cp) L ep (.returned u7) (wr.setCell ⟨B,j,none⟩ (.slice (some ⟨g,0,none⟩) r cp))):=Za (by
    have ho:=hd.o;have hlen:=hd.len;have hrw:=hd.row;rw [List.take_of_length_le Zf] at ho hlen hrw;have ho2:wr.ownsRow 0 271 2 (.slice (some ⟨g,0,none⟩) r cp) (GB ep (bk n L j)).length (Qf (GB ep (bk n L j))):=by
     rw [e1.1,hlen];obtain ⟨r1,r2,r3,rest,r4,r5⟩:=hrw;refine dR.owns (g:=g) (w:=wr) (cap:=cp) ⟨hlen,by omega,r3,Qf (l.drop r)++rest,?_,?_⟩ (XY _)
     ·rw [ZI,UO,r4,List.length_drop,e1.2];omega
     ·rw [<-List.append_assoc,<-Mt];exact r5
    refine ⟨u7,.slice (some ⟨g,0,none⟩) r cp,rfl,?_,fj HH.o HS.o HJ.o fY ho2 rfl,rfl,?_⟩
    ·rw [<-e1.1,nM HJ.o] at ho;refine Gm ho (fun i hi=>Xr _ _ _ _ (fun e=>?_));have e:i=B:=e;have:=(ho.lt i hi).1;omega
    ·exact (fY.more (fun _ _ h=> .inr h)).setCell (.inl (.inl rfl)) _)
   clear hd e1 fY HD;go_wp2;go_ret;exact HP.o
end
section
open Go Go.RowKit
theorem ly {x:Int}(h:DU x) :BB [x] 1=x/\KS [x] 1=true:=by
 have e:XR [x] 1=x:=by simp [XR]
 exact ⟨by rw [BB,e,if_pos h.2],by rw [KS,e,decide_eq_true h.2]⟩
section
variable {w w':Zc} {h k:Nat} {lim s x:Int} {p:Nat × Int} {S:Nat->Prop} {a:Option Addr} {L:List Int} {cap:Nat}
theorem eE (i:Int)(hu:Ss w S a L)(hL:L.length<=9223372036854775807)(hA:NI L) :
  Z3 239 #[.slice a L.length cap,.int .i64 i] w (.int .u64 (KK L i)):=by
 have hb:Zp w.heap.size w (w.alloc (.cells #[.int .i64 i] 3)):=(Zn _ _).alloc (Zh _) _;have HW:=Za (jd (I:= [i]) (ic:=1) (cap:=cap) (S2:=fun _=>False) (hu.below hb) hL hA (XS.of_blk (L:= [i]) (Zs w 3 #[.int .i64 i]) (fun h=>h)) ZE);have HB:=Za hb;have HO:=Za (ly (PY hA i));clear hb hu hL hA;go_enter func239,ntmps239;go_wp2_with fail;refine HW.o.mono ?_;rintro e w' ⟨rfl,b1⟩;rw [List.map_cons,List.map_nil,List.length_singleton,HO.o.1,HO.o.2];have B1:=Za b1;clear b1 HW;go_wp2;go_ret;exact ⟨rfl,HB.o.trans (B1.o.mono HB.o.size)⟩
theorem ZcE (bb wb:Nat)(i:Int)(w:Zc)(hB:Zu w bb 282 #[Pa h])(hW:Zu w wb 121 #[.slice a L.length cap])(hu:Ss w S a L)(hL:L.length<=9223372036854775807)(hA:NI L)
  (hb:CI w h lim p) (hs:DU p.2) (hl:DU lim) (hk:p.1<=1000000000) :
  Zv Zb 238 #[.int .i64 i,.pointer (some ⟨bb,0,none⟩),.pointer (some ⟨wb,0,none⟩)] w fun e w'=>
   e= .returned (.bool (((VO lim p (KK L i)).1:Int)==1))/\CI w' h lim (VO lim p (KK L i))/\ZA (fun i=>i=h+1\/i=h+2) w w':=by
 have HWt:=Za (fun w' (hb':Zp w.heap.size w w')=>eE (cap:=cap) i (hu.below hb') hL hA);have HBn:=Za (fun w' (h':CI w' h lim p)=>Zbq w' h' hs (PY hA i) hl hk);have HBl:=Za (Zm hB (Zm hW hb));have c1:w.cell? ⟨bb,0,none⟩=some (Pa h):=hB.cell 0;have c2:=Xx hW 0;have HC:=Za (Zm c1 c2);clear hB hW hb hu hA c1 c2;go_enter func238,ntmps238;go_wp2;refine L5 (fun w'=>w'.cell? ⟨bb,0,none⟩=some (Pa h)/\w'.cell? ⟨wb,0,none⟩=some (.slice a L.length cap)) 4 1 [0,1,2] HC.o ?_;refine JH ?_;refine Nh ?_;refine KY 282 ⟨bb,0,none⟩ (Pa h) (fun w h=>h.1) ?_;refine KY 121 ⟨wb,0,none⟩ (.slice a L.length cap) (fun w h=>h.2) ?_;refine X7 ?_;refine U4 ?_;refine Yo ?_;refine JC (i:=3) ?_;refine JA #[.slice a L.length cap,.int .i64 i] call239 ((HWt.o w.drew (Below.drew (Zn _ _))).mono ?_);rintro e w1 ⟨rfl,b1⟩;have B1:Zj (Zp w.heap.size w w1):=Za ((Below.drew (Zn _ _)).trans b1);clear b1;have K1:Zj (CI w1 h lim p):=Za (HBl.o.2.2.kept (S:=fun _=>False) (Y9 B1.o) (fun _ _ _ h=>h));refine ⟨_,rfl,⟨(HBl.o.1.below B1.o HBl.o.1.lt).cell 0,(HBl.o.2.1.below B1.o HBl.o.2.1.lt).cell 0⟩,?_⟩;refine GD ?_;refine ⟨by kernel_rfl,?_⟩;refine LA ?_;have H4:=Za (HBn.o w1 K1.o);have B2:Zj (ZA (fun i=>i=h+1\/i=h+2) w w1):=Za (Y9 B1.o);clear HBn HWt HBl HC K1 B1;generalize hq:VO lim p (KK L i)=q at H4;have HQ:=Za hq;clear hq;unfold Pa;go_wp2_with fail;refine H4.o.mono ?_;rintro e w' ⟨rfl,b4,k4⟩;have B4:=Za (Zm b4 k4);clear b4 k4 H4;go_wp2;refine U1 ?_;go_wp2;go_ret;rw [HQ.o];exact ⟨rfl,B4.o.1,B2.o.trans B4.o.2 (fun _ _ h=>h)⟩
end
end
section
open Go Go.RowKit Go.Deep
theorem uJ (b B n j:Nat)(ss:List Zl)(L:List QZ)(ep:Int)(w:Zc)(h:Vj w b B n ss L)(hs:ss[j]?=some (.slice none 0 0))(h0:0<=ep)(h1:ep<=1099511627776)(hj:ep%(n:Int)=(j:Int))(hl:bk n L j=[]) :
  Zv Zb 234 #[.pointer (some ⟨b,0,none⟩),.int .i64 ep] w (OT w b B n j ss (.slice none 0 0) L ep):=by
 have Ei:j < n:=zj
 obtain ⟨x0,x1⟩:=h.cells hs;have HN:=Za (On b n j n (some ⟨B,0,none⟩) ep w x0 h.pos h.top h0 h1 hj);have hj1: ¬(j:Int)< 0:=Zf;have hj2: ¬(n:Int)<=(j:Int):=Zf;have hj3:(j:Int)< (n:Int):=Zf;have hn4:n<=4096:=h.top;have z1:w.frozen? ⟨B,j,none⟩=false:=h.bks.frozen j;have HP:Zj (OT w b B n j ss (.slice none 0 0) L ep (.returned (.slice none 0 0)) (w.setCell ⟨B,j,none⟩ (.slice none 0 0))):=Za (by
  have hg:Vr ep L=[]:=by rw [<-nM hj,hl]; rfl
  refine ⟨_,.slice none 0 0,rfl,?_,fj h hs hj (ZS _ _) ?_ rfl,rfl,(ZS _ _).setCell (.inl (.inl rfl)) _⟩
  ·rw [hg]; exact Y4 _ _ _ _
  ·rw [hl]; exact Y4 _ _ _ _)
 clear h hs hj hl;go_enter func234,ntmps234;go_wp2_with fail;refine HN.o.mono ?_;rintro e w' ⟨rfl,rfl⟩;clear HN;go_wp2_with fail;go_loopw [7,8,35] (fun s7 s8 s35 wr=>s7= .slice none 0 0/\s8= .slice none 0 0/\s35= .int .i64 0/\w=wr) (fun _ _ _ _=>0)
 case atStart=>exact ⟨rfl,rfl,rfl,rfl⟩
 case round=>
  obtain ⟨rfl,rfl,rfl,rfl⟩:=hrel;go_wp2;go_ret;exact HP.o
theorem ZbB (b n:Nat)(S:Nat->Prop)(L:List QZ)(ep:Int)(w:Zc)(h:NJ w b S n L)(h0:0<=ep)(h1:ep<=1099511627776)(hL:L.length<=100000) :
  Zv Zb 234 #[.pointer (some ⟨b,0,none⟩),.int .i64 ep] w fun e w'=> ∃v S',e= .returned v/\w'.ownsRow w.heap.size 3 1 v (Vr ep L).length ((Vr ep L).map (ZG .i64))/\NJ w' b S' n (GB ep L)/\(∀i,S' i->S i)/\ZA S w w':=by
 obtain ⟨B,ss,hp,hS⟩:=h;obtain ⟨j,hj⟩ : ∃j:Nat,ep%(n:Int)=(j:Int):=⟨(ep%(n:Int)).toNat,by have:=Int.emod_nonneg ep (b:=(n:Int)) mU; omega⟩;have Ei:j < n:=Zfw
 obtain ⟨s,hs⟩:=hp.get Ei;have key:Zv Zb 234 #[.pointer (some ⟨b,0,none⟩),.int .i64 ep] w (OT w b B n j ss s L ep):=by
  have hr:=hp.row j s hs
  rcases hr.2 with ⟨h1,h2⟩ | ⟨g,cp,cur,h1,_⟩
  ·subst h1;exact uJ b B n j ss L ep w hp hs h0 ‹_› hj (List.eq_nil_of_length_eq_zero h2)
  ·subst h1;exact ZbD b B n j g cp ss L ep w hp hs h0 ‹_› hj hL
 refine key.mono ?_;rintro e w' ⟨v,s',he,ho,h2,h3,h4⟩;refine ⟨v,fun i=>i=b\/i=B\/ ∃s:Zl,s ∈ ss.set j s'/\s.ownBlock=some i,he,ho,⟨B,_,h2,fun _=>Iff.rfl⟩,?_,h4.more (fun i _ hi=>?_)⟩
 ·rintro i (rfl | rfl | ⟨t,ht,hq⟩)
  ·exact (hS _).2 (.inl rfl)
  ·exact (hS _).2 (.inr (.inl rfl))
  ·rcases List.mem_or_eq_of_mem_set ht with ht | rfl
   ·exact (hS i).2 (.inr (.inr ⟨t,ht,hq⟩))
   ·exact (hS i).2 (.inr (.inr ⟨s,Zz hs,by rw [<-h3]; exact hq⟩))
 ·exact ZeT
end
section
open Go Go.ChangeShapes Go.WideShapes Go.RowKit Go.Deep
structure Rc where
 kd:Int
 cd:Int
 ix:Int
 bl:Int
 ep:Int
 dl:Int
 aa:Option Addr
 an:Nat
 ac:Nat
 pa:Option Addr
 pn:Nat
 pc:Nat
 vs:Int
deriving Inhabited
def Rc.row (v:Rc) :List Zl:= [.int .i64 v.kd,.int .i64 v.cd,.int .i64 v.ix,.int .i64 v.bl,.int .i64 v.ep,.int .i64 v.dl,.slice v.aa v.an v.ac,.slice v.pa v.pn v.pc,.int .i64 v.vs]
def Z9 (v:Rc) :Array Zl:=v.row.toArray
def Bi:Rc:=⟨0,0,0,0,0,0,none,0,0,none,0,0,0⟩
theorem Rc.row_len (v:Rc) :v.row.length=9:=rfl
theorem Rc.row_one (v:Rc) : ∀u ∈ v.row,u.oneCell'=true:=by
 intro u hu;simp only [Rc.row,ZX,Yk,or_false] at hu
 rcases hu with rfl | rfl | rfl | rfl | rfl | rfl | rfl | rfl | rfl <;> rfl
theorem Ka (v:Rc) :(Z9 v).all (·.oneCell')=true:=by
 refine ZQ.2 (fun u hu=>Rc.row_one v u (by simpa [Z9] using hu))
theorem Vs:(Tryz.prog.info? 53).map (·.size)=some 9:=ZC
section
variable {P:Program} {ops:Array Oper} {rest:List Oper} {op:Oper} {a:Act} {w:Zc} {Q:Exit->Act->Zc->Prop}
theorem LS (hg:op.guard=none)(t:TypeId)(parts:Array (Nat × YW))(ho:op.op= .build t parts)(v:Rc)
  (hf:P.built t (parts.map fun (i,x)=>(i,a.eval x)).toList=some (Z9 v)) (h:Y2 P ops Q rest (a.put op.dst (.agg (Z9 v))) w) :Y2 P ops Q (op::rest) a w:=
 wpList_build hg t parts ho CD CB
end
end
section
open Go Go.RowKit Go.Deep
def r9 (k c b e:Int) :Rc:=⟨k,c,-1,b,e,-1,none,0,0,none,0,0,0⟩
def Wm (k i d b e:Int) :Rc:=⟨k,0,i,b,e,d,none,0,0,none,0,0,0⟩
theorem lZ (o:Oq)(c b e:Int)(w:Zc) :Zv Zb 37 #[.agg (Z6 o),.int .i64 c,.int .i64 b,.int .i64 e] w fun e' w'=>e'= .returned (.agg (Z9 (r9 o.kd c b e)))/\Zp w.heap.size w w':=by
 have KO:Zj (Zu ((w.alloc (.cells (Z6 o) 49)).alloc (.cells (Z9 Bi) 53)) w.heap.size 49 (Z6 o)):=Za ((Zs w _ _).alloc _);have KZ:Zj (Zu ((w.alloc (.cells (Z6 o) 49)).alloc (.cells (Z9 Bi) 53)) (w.heap.size+1) 53 (Z9 Bi)):=Za (by
  have h:=Zs (w.alloc (.cells (Z6 o) 49)) 53 (Z9 Bi);rwa [show (w.alloc (.cells (Z6 o) 49)).heap.size=w.heap.size+1 by simp] at h)
 have B0:Zj (Zp w.heap.size w ((w.alloc (.cells (Z6 o) 49)).alloc (.cells (Z9 Bi) 53))):=Za (((Zn _ _).alloc (Zh _) _).alloc ZE _);go_enter func37,ntmps37;go_upto_region 1 with (fail);generalize hW:(w.alloc (.cells (Z6 o) 49)).alloc (.cells _ 53)=W;have eW:(w.alloc (.cells (Z6 o) 49)).alloc (.cells (Z9 Bi) 53)=W:=hW;rw [eW] at KO KZ B0;clear hW eW;have k0:=Xx KO.o 0;go_wp2_with (first | (refine LS rfl 53 _ rfl (r9 o.kd c b e) ZC ?_) | (refine Up (w.heap.size+1) (Z9 (r9 o.kd c b e)) 53 KZ.o Vs (Ka _) ?_));exact ZmO
theorem CV (o:Oq)(i d b e:Int)(w:Zc) :Zv Zb 172 #[.agg (Z6 o),.int .i64 i,.int .i64 d,.int .i64 b,.int .i64 e] w fun e' w'=>e'= .returned (.agg (Z9 (Wm o.kd i d b e)))/\Zp w.heap.size w w':=by
 have KO:Zj (Zu ((w.alloc (.cells (Z6 o) 49)).alloc (.cells (Z9 Bi) 53)) w.heap.size 49 (Z6 o)):=Za ((Zs w _ _).alloc _);have KZ:Zj (Zu ((w.alloc (.cells (Z6 o) 49)).alloc (.cells (Z9 Bi) 53)) (w.heap.size+1) 53 (Z9 Bi)):=Za (by
  have h:=Zs (w.alloc (.cells (Z6 o) 49)) 53 (Z9 Bi);rwa [show (w.alloc (.cells (Z6 o) 49)).heap.size=w.heap.size+1 by simp] at h)
 have B0:Zj (Zp w.heap.size w ((w.alloc (.cells (Z6 o) 49)).alloc (.cells (Z9 Bi) 53))):=Za (((Zn _ _).alloc (Zh _) _).alloc ZE _);go_enter func172,ntmps172;go_upto_region 1 with (fail);generalize hW:(w.alloc (.cells (Z6 o) 49)).alloc (.cells _ 53)=W;have eW:(w.alloc (.cells (Z6 o) 49)).alloc (.cells (Z9 Bi) 53)=W:=hW;rw [eW] at KO KZ B0;clear hW eW;have k0:=Xx KO.o 0;go_wp2_with (first | (refine LS rfl 53 _ rfl (Wm o.kd i d b e) ZC ?_) | (refine Up (w.heap.size+1) (Z9 (Wm o.kd i d b e)) 53 KZ.o Vs (Ka _) ?_));exact ZmO
end
section
open Go Go.RowKit
section
variable {ops:Array Oper} {rest:List Oper} {o:Oper} {a:Act} {w:Zc} {Q:Exit->Act->Zc->Prop}
theorem ZiQ (g:Nat){r:Rc}{old:Array Zl}{ty:TypeId}{x y:YW}(hg:w.heap[g]?=some (.cells old 53 (0,0)))(h:Y2 Zb ops Q rest (a.put o.dst undef) (w.setRow g (Z9 r)))
  (DD:o.guard=none:=by exact rfl) (ho:o.op= .store ty x y:=by exact rfl) (hx:a.eval x= .pointer (some ⟨g,0,none⟩):=by exact rfl) (hy:a.eval y= .agg (Z9 r):=by exact rfl)
  (hi:(Tryz.prog.info? ty).map (·.size)=some 9:=by exact Vs) (hold:old.size=9:=by exact rfl) :Y2 Zb ops Q (o::rest) a w:=YQ DD ty x y ho g (Z9 r) hx hy _ old hg hi hold (Ka r) h
end
end
section
open Go Go.RowKit Go.Deep
theorem OF (w:Zc)(A:Obj)(cs:Array Zl)(t:TypeId) :Zu ((w.alloc A).alloc (.cells cs t)) (w.heap.size+1) t cs:=zA
theorem RW:(#[.int .i64 0,.int .u64 0] :Array Zl)=ZF NO:=rfl
theorem Rs (w:Zc)(A B:Obj) :Zp w.heap.size w ((w.alloc A).alloc B):=((Zn _ _).alloc (Zh _) _).alloc ZE _
theorem RO (r:Rq)(x:Int)(w:Zc) :
  Z3 231 #[.agg (ZF r),.int .u64 x] w (.agg (ZF ⟨r.ix,x⟩)):=by
 have HB:Zj (Zu ((w.alloc (.cells (ZF r) 119)).alloc (.cells (ZF NO) 119)) w.heap.size 119 (ZF r)/\Zu ((w.alloc (.cells (ZF r) 119)).alloc (.cells (ZF NO) 119)) (w.heap.size+1) 119 (ZF NO)):=Za ⟨(Zs w _ _).alloc _,OF w _ _ _⟩;have HL:Zj (Zp w.heap.size w ((w.alloc (.cells (ZF r) 119)).alloc (.cells (ZF NO) 119))):=Za (Rs _ _ _);go_enter func231,ntmps231;go_upto_region 1 with (fail);simp only [RW];generalize (w.alloc (.cells (ZF r) 119)).alloc (.cells (ZF NO) 119)=W at*;have x0:=Xx HB.o.1 0;go_wp2_with (first | (refine TG rfl 119 _ rfl ⟨r.ix,x⟩ ZC ?_) | (refine Up (w.heap.size+1) (ZF ⟨r.ix,x⟩) 119 HB.o.2 Jq (Ky _) ?_));exact Ye (v:= .agg (ZF ⟨r.ix,x⟩)) (YF (fn:=Tryz.f231) rfl _ _ (w.heap.size+1) 119 (ZF ⟨r.ix,x⟩) (0,0) _ rfl (YH _ _ _ _ _ _ HB.o.2) underlying119 rfl Jq) rfl ⟨rfl,Xw HL.o Zf _⟩
theorem FH (r:Rq)(n:Nat)(w:Zc) :
  Z3 192 #[.agg (ZF r),.int .i64 n] w (.bool (Uu r n)):=by
 have HB:Zj (Zu (w.alloc (.cells (ZF r) 119)) w.heap.size 119 (ZF r)/\Zp w.heap.size w (w.alloc (.cells (ZF r) 119))):=Za ⟨Zs w _ _,(Zn _ _).alloc (Zh _) _⟩;have hx:Zj ((decide (0<=r.ix)&&decide (r.ix < (n:Int)))=Uu r n):=Za (by rw [Uu,Bool.decide_and])
 by_cases h1:0<=r.ix
 ·have d1:decide (0<=r.ix)=true:=decide_eq_true h1;obtain ⟨b,hb⟩:=ZR (decide (r.ix < (n:Int)));have E:Zj (Uu r n=b):=Za (by rw [<-hx.o,d1,hb,Bool.true_and]);exact ZmM
 ·have d1:decide (0<=r.ix)=false:=decide_eq_false h1;have E:Zj (Uu r n=false):=Za (by rw [<-hx.o,d1,Bool.false_and]);exact ZmM
theorem IN (r:Rq)(w:Zc) :
  Z3 193 #[.agg (ZF r)] w (.bool (decide (r.am=0))):=by
 have HK:Zj (GJ w.heap.size w.heap.size 119 (ZF r) w (w.alloc (.cells (ZF r) 119))):=Za (GJ.new (Zn _ _) (Zh _));have E:Zj (decide (r=(⟨r.ix,0⟩ :Rq))=decide (r.am=0)):=Za (by
  obtain ⟨i,a⟩:=r;simp)
 obtain ⟨b,hb⟩ : ∃b,decide (r.am=0)=b:=⟨_,rfl⟩;rw [hb] at E ⊢;clear hb;go_enter func193,ntmps193;go_upto_region 1 with (fail);generalize w.alloc (.cells (ZF r) 119)=W at*;refine Kk (GJ w.heap.size w.heap.size 119 (ZF r) w) ZC ZC HK.o.drew ?_;refine Jb 119 _ w.heap.size 119 (ZF r) _ rfl rfl rfl (fun w' h=>h.1) underlying119 rfl Jq ?_;refine X7 ?_;refine Jb 119 _ w.heap.size 119 (ZF r) _ rfl rfl rfl (fun w' h=>h.1) underlying119 rfl Jq ?_;refine X7 ?_;refine RR (.agg (ZF ⟨r.ix,0⟩)) #[.agg (ZF r),.int .u64 0] ZC ZC call231 (fun w' h=>h.call (RO r 0 w')) ?_;refine X7 ?_;refine Zim r ⟨r.ix,0⟩ b rfl rfl rfl E.o ?_;refine X7 ?_;refine U4 ?_;refine Yo ?_;intro w1 k1;go_wp2;go_ret;exact ⟨rfl,k1.2.1⟩
theorem bD (S:Nat->Prop)(a:Option Addr)(cp:Nat)(l:List ZN)(r:Rq)(w:Zc)(h:FL w S a l) :
  Z3 134 #[.slice a l.length cp,.agg (ZF r)] w (.int .i64 (Ru l r)):=by
 have HK:Zj (GJ w.heap.size w.heap.size 119 (ZF r) w (w.alloc (.cells (ZF r) 119))):=Za (GJ.new (Zn _ _) (Zh _));have HW:=Za (fun w=>FH r l.length w);have HE:=Za (fun w=>IN r w);have HL:=Za h;obtain ⟨n,hn⟩:=ZR (l.length);rw [hn] at HW ⊢;clear h
 cases hb:Uu r n with
 | false=>
  have E:Zj (Ru l r=7):=Za (by rw [Ru,hn,hb]; rfl);rw [hb] at HW;clear hb hn HL;go_enter func134,ntmps134;go_upto_region 1 with (fail);generalize w.alloc (.cells (ZF r) 119)=W at*;go_wp2_with (first | (refine Kl 119 w.heap.size HK.o.1 underlying119 Jq ?_));refine (HK.o.call (HW.o _)).mono ?_;rintro e w1 ⟨rfl,k1⟩;have K1:=Za k1;clear k1 HK;go_wp2;go_ret;exact ⟨congrArg (fun x=>Ending.returned (.int .i64 x)) E.o.symm,K1.o.2.1⟩
 | true=>
  rw [hb] at HW
  by_cases h0:r.am=0
  ·have E:Zj (Ru l r=3):=Za (by rw [Ru,hn,hb,if_neg ZE,if_pos h0]);rw [decide_eq_true h0] at HE;clear hb hn HL h0;go_enter func134,ntmps134;go_upto_region 1 with (fail);generalize w.alloc (.cells (ZF r) 119)=W at*;go_wp2_with (first | (refine Kl 119 w.heap.size HK.o.1 underlying119 Jq ?_));refine (HK.o.call (HW.o _)).mono ?_;rintro e w1 ⟨rfl,k1⟩;have K1:=Za k1;clear k1 HK;go_wp2_with (first | (refine Kl 119 w.heap.size K1.o.1 underlying119 Jq ?_));refine (K1.o.call (HE.o _)).mono ?_;rintro e w2 ⟨rfl,k2⟩;have K2:=Za k2;clear k2 K1;exact Zgl
  ·rw [decide_eq_false h0] at HE;obtain ⟨i,v,hi,hv⟩:=IZ (l:=l) (r:=r) (by rw [hn]; exact hb);have FX:=(Zk.1 hv).1;have HV:=Za hv;have HX:=Za hi;have k1: ¬(i:Int)< 0:=Zf;have k2: ¬(n:Int)<=(i:Int):=Zf;have k3:(i:Int)< (n:Int):=Zf;have E0:Ru l r=if v.st≠2 then 8 else 0:=by rw [Ru,hn,hb,if_neg ZE,if_neg h0,hi,Int.toNat_natCast,VG hv]
   by_cases hs:v.st=2
   ·have E:Zj (Ru l r=0):=Za (by rw [E0,if_neg (by simp [hs])]);have ds:(v.st != 2)=false:=by simp [hs]
    exact Zmb
   ·have E:Zj (Ru l r=8):=Za (by rw [E0,if_pos Ly]);have ds:(v.st != 2)=true:=Ly;exact Zmb
end
section
open Go Go.RowKit Go.Deep
theorem vo (a b:Int)(w:Zc)(h:b<=a)(h0:0<=b)(h1:a<=18446744073709551615) :Y6 299 #[.int .u64 a,.int .u64 b] w (.tuple #[.int .u64 (a - b),.bool true]):=by
 have hw:IntKind.u64.wrap (a - b)=a - b:=by simp [IntKind.wrap,J8,Vd]; omega
 have d:decide (a < b)=false:=decide_eq_false Zf;clear h h0 h1;exact ZfO
theorem ZbQ (a b:Int)(w:Zc)(h:a < b) :Y6 299 #[.int .u64 a,.int .u64 b] w (.tuple #[.int .u64 0,.bool false]):=by
 have d:decide (a < b)=true:=decide_eq_true h;clear h;exact ZfO
def VC (w W:Zc)(v:ZN)(c:Nat->Int) :Prop:=Zu W w.heap.size 68 (Ze v)/\Zu W (w.heap.size+1) 30 (Zi c)/\Zp w.heap.size w W
theorem VC.new (w:Zc)(v:ZN)(c:Nat->Int) :VC w ((w.alloc (.cells (Ze v) 68)).alloc (.cells (Zi c) 30)) v c:=⟨(Zs w _ _).alloc _,OF w _ _ _,Rs _ _ _⟩
theorem VC.next {w W W':Zc}{v:ZN}{c:Nat->Int}(h:VC w W v c)(hb:Zp W.heap.size W W') :VC w W' v c:=⟨h.1.below hb h.1.lt,h.2.1.below hb h.2.1.lt,h.2.2.trans (hb.mono h.2.2.size)⟩
theorem VC.cells {w W:Zc}{v:ZN}{c:Nat->Int}(h:VC w W v c) :W.cell? ⟨w.heap.size,0,none⟩=some (.int .u64 v.bal)/\W.cell? ⟨w.heap.size,1,none⟩=some (.int .i64 v.st)/\W.cell? ⟨w.heap.size,2,none⟩=some (.bool v.sl)/\W.cell? ⟨w.heap.size+1,5,none⟩=some (.int .u64 (c 5)):=⟨h.1.cell 0,h.1.cell 1,h.1.cell 2,h.2.1.cell 5⟩
theorem pX (v:ZN)(c:Nat->Int)(w:Zc)(hv:Yp v)(hm:0<=c 5) :
  Z3 292 #[.agg (Ze v),.agg (Zi c)] w (.int .u64 (Bt v (c 5))):=by
 have T:=Za (VC.new w v c)
 by_cases hs:v.st=2
 ·have ds:(v.st != 2)=false:=by simp [hs]
  cases hl:v.sl with
  | true=>
   have E:Zj (Bt v (c 5)=0):=Za (by rw [Bt,if_neg Ly,if_pos hl]);have HL:=Za hl;clear hs hl hv hm;go_enter func292,ntmps292;go_upto_region 1 with (fail);generalize (w.alloc (.cells (Ze v) 68)).alloc (.cells (Zi c) 30)=W at*;obtain ⟨x0,x1,x2,x3⟩:=T.o.cells;rw [HL.o] at x2;exact Zfj
  | false=>
   have HL:=Za hl
   by_cases hb:c 5<=v.bal
   ·have E:Zj (Bt v (c 5)=v.bal - c 5):=Za (by rw [Bt,if_neg Ly,if_neg (by simp [hl])]; split <;> omega);have HS:=Za (fun w=>vo v.bal (c 5) w hb hm hv.bal.2);exact Zmp
   ·have E:Zj (Bt v (c 5)=0):=Za (by rw [Bt,if_neg Ly,if_neg (by simp [hl]),if_neg Zf]);have HS:=Za (fun w=>ZbQ v.bal (c 5) w Zf);exact Zmp
 ·have ds:(v.st != 2)=true:=Ly;have E:Zj (Bt v (c 5)=0):=Za (by rw [Bt,if_pos Ly]);clear hs hv hm;go_enter func292,ntmps292;go_upto_region 1 with (fail);generalize (w.alloc (.cells (Ze v) 68)).alloc (.cells (Zi c) 30)=W at*;obtain ⟨x0,x1,x2,x3⟩:=T.o.cells;exact Zfj
theorem mF:(#[.int .u64 0,.int .i64 0,.bool false,.int .i64 0,.int .i64 0,.int .i64 0,.int .i64 0] :Array Zl)=Ze ZU:=rfl
theorem bd (v:ZN)(x:Int)(c:Nat->Int)(w:Zc)(hv:Yp v)(hm:0<=c 5)(hx:0<=x) :
  Z3 276 #[.agg (Ze v),.int .u64 x,.agg (Zi c)] w (.tuple #[.agg (Ze (LX v x (c 5))),.int .u64 (DF v x (c 5))]):=by
 have T:Zj (VC w (((w.alloc (.cells (Ze v) 68)).alloc (.cells (Zi c) 30)).alloc (.cells (Ze ZU) 68)) v c/\
  Zu (((w.alloc (.cells (Ze v) 68)).alloc (.cells (Zi c) 30)).alloc (.cells (Ze ZU) 68)) (w.heap.size+2) 68 (Ze ZU)):=Za ⟨(VC.new w v c).next ((Zn _ _).alloc (Zh _) _),by
   have:=Zs ((w.alloc (.cells (Ze v) 68)).alloc (.cells (Zi c) 30)) 68 (Ze ZU);simpa using this⟩
 have HA:=Za (fun w=>pX v c w hv hm);have hb:=Fh (x:=x) hv hm hx;obtain ⟨p,hp⟩:=ZR (DF v x (c 5));obtain ⟨A,hA⟩:=ZR (Bt v (c 5));have Ad:(if A < x then A else x)=p:=by rw [<-hp,DF,hA]
 have hmin2:min x A=p:=by rw [<-Ad]; split <;> omega
 obtain ⟨t,ht⟩:=ZR (v.bal - p);have hw:IntKind.u64.wrap (v.bal - p)=t:=by
  have:=hv.bal;rw [hp] at hb;rw [ht];have h3:0<=t:=Zf;have h4:t<=18446744073709551615:=Zf;simp [IntKind.wrap,J8,Vd]; omega
 have E:Zj (Ze (LX v x (c 5))=(Ze v).setIfInBounds 0 (.int .u64 t)):=Za (by rw [<-ht,<-hp]; rfl);rw [hA] at HA;rw [hp];clear hv hm hx hb hp hA ht;go_enter func276,ntmps276;go_upto_region 1 with (fail);simp only [mF];generalize ((w.alloc (.cells (Ze v) 68)).alloc (.cells (Zi c) 30)).alloc (.cells (Ze ZU) 68)=W at*;go_wp2_with (first | (refine Kl 68 w.heap.size T.o.1.1 underlying68 Ya ?_) | (refine Kl 30 (w.heap.size+1) T.o.1.2.1 underlying30 Qk ?_));refine (HA.o _).mono ?_;rintro e w1 ⟨rfl,b1⟩;have T1:Zj (VC w w1 v c/\Zu w1 (w.heap.size+2) 68 (Ze ZU)):=Za ⟨T.o.1.next b1,T.o.2.below b1 T.o.2.lt⟩;clear T b1 HA;have f0:=T1.o.1.1.frozen 0;have x0:=T1.o.1.cells.1;go_upto_region 3 with (fail);have Z:Zj (Zu (w1.setCell ⟨w.heap.size,0,none⟩ (.int .u64 t)) w.heap.size 68 (Ze (LX v x (c 5)))/\Zu (w1.setCell ⟨w.heap.size,0,none⟩ (.int .u64 t)) (w.heap.size+2) 68 (Ze ZU)/\Zp w.heap.size w (w1.setCell ⟨w.heap.size,0,none⟩ (.int .u64 t))):=by
  obtain ⟨⟨h1,h2,h3⟩,h4⟩:=T1.o;refine Za ⟨?_,h4.far ZE _,h3.setCell ZE _⟩;rw [E.o];exact h1.set_ 0 _
 generalize w1.setCell ⟨w.heap.size,0,none⟩ (.int .u64 t)=w2 at*;clear T1 x0 f0 E hw Ad hmin2;go_wp2_with (first | (refine Kl 68 w.heap.size Z.o.1 underlying68 Ya ?_) | (refine Up (w.heap.size+2) (Ze (LX v x (c 5))) 68 Z.o.2.1 Ya (Yi _) ?_));exact Ye (v:= .tuple #[.agg (Ze (LX v x (c 5))),.int .u64 p]) (Qg (fn:=Tryz.f276) rfl _ _ (w.heap.size+2) 68 (Ze (LX v x (c 5))) (0,0) _ rfl (YH _ _ _ _ _ _ Z.o.2.1) underlying68 rfl Ya) rfl ⟨rfl,Xw Z.o.2.2 Zf _⟩
end
section
open Go Go.RowKit Go.Deep
theorem Ik (w:Zc) :(Instr.alloc 68 true (.tuple #[])).run Zb w= .ok (.pointer (some ⟨w.heap.size,0,none⟩)) (w.alloc (.cells (Ze ZU) 68)):=by
 obtain ⟨i,hi,hz,hs,Ns⟩:=dq;exact Zfl
theorem Kv {o:Oper}{a:Act}{w:Zc}{K:Act->Zc->Prop}{Q:Exit->Act->Zc->Prop}(ho:o.op= .alloc 68)
  (h:K (a.put o.dst (.pointer (some ⟨w.heap.size,0,none⟩))) (w.alloc (.cells (Ze ZU) 68))) :o.wp Zb a w K Q:=by
 unfold Oper.wp execOp;simp only [ho,Sem.run_bind,Ik w,Result.andThen_ok,Sem.run_pure];exact h
def RC (w W:Zc)(r:Rq)(c:Nat->Int) :Prop:=Zu W w.heap.size 119 (ZF r)/\Zu W (w.heap.size+1) 30 (Zi c)/\Zu W (w.heap.size+2) 119 (ZF NO)/\Zp w.heap.size w W
theorem RC.new (w:Zc)(r:Rq)(c:Nat->Int) :RC w (((w.alloc (.cells (ZF r) 119)).alloc (.cells (Zi c) 30)).alloc (.cells (ZF NO) 119)) r c:=
 ⟨((Zs w _ _).alloc _).alloc _,(OF w _ _ _).alloc _,by
  have:=Zs ((w.alloc (.cells (ZF r) 119)).alloc (.cells (Zi c) 30)) 119 (ZF NO);simpa using this,(Rs _ _ _).alloc (by simp <;> omega) _⟩
theorem RC.next {w W W':Zc}{r:Rq}{c:Nat->Int}(h:RC w W r c)(hb:Zp W.heap.size W W') :RC w W' r c:=⟨h.1.below hb h.1.lt,h.2.1.below hb h.2.1.lt,h.2.2.1.below hb h.2.2.1.lt,h.2.2.2.trans (hb.mono h.2.2.2.size)⟩
theorem rT (r:Rq)(a:Option Addr)(n cp:Nat)(c:Nat->Int)(w:Zc)(h:Uu r n=false) :
  Z3 246 #[.agg (ZF r),.slice a n cp,.agg (Zi c)] w (.agg (ZF ⟨r.ix,0⟩)):=by
 have T:=Za (RC.new w r c);have HW:=Za (fun w=>FH r n w);have HF:=Za (fun w=>RO r 0 w);rw [h] at HW;clear h;go_enter func246,ntmps246;go_upto_region 1 with (fail);simp only [RW];generalize ((w.alloc (.cells (ZF r) 119)).alloc (.cells (Zi c) 30)).alloc (.cells (ZF NO) 119)=W at*;go_wp2_with (first | (refine Kl 119 w.heap.size T.o.1 underlying119 Jq ?_));refine (HW.o _).mono ?_;rintro e w1 ⟨rfl,b1⟩;have T1:=Za (T.o.next b1);clear T b1 HW;go_wp2_with (first | (refine Kl 119 w.heap.size T1.o.1 underlying119 Jq ?_));refine (HF.o _).mono ?_;rintro e w2 ⟨rfl,b2⟩;have T2:=Za (T1.o.next b2);clear T1 b2 HF;go_wp2_with (first | (refine Up (w.heap.size+2) (ZF ⟨r.ix,0⟩) 119 T2.o.2.2.1 Jq (Ky _) ?_));exact Ye (v:= .agg (ZF ⟨r.ix,0⟩)) (YF (fn:=Tryz.f246) rfl _ _ (w.heap.size+2) 119 (ZF ⟨r.ix,0⟩) (0,0) _ rfl (YH _ _ _ _ _ _ T2.o.2.2.1) underlying119 rfl Jq) rfl ⟨rfl,Xw T2.o.2.2.2 Zf _⟩
def UI (W:Zc)(g n cp:Nat)(l:List ZN) :Prop:=W.ownsRow 0 68 7 (.slice (some ⟨g,0,none⟩) n cp) n (XC l)
theorem UI.next {W W':Zc}{g n cp:Nat}{l:List ZN}(h:UI W g n cp l)(hb:Zp W.heap.size W W') :UI W' g n cp l:=Va h (fun i hi=>hb.block i (ownsRow_lt h hi))
 where ownsRow_lt {W:Zc} {g n cp:Nat} {l:List ZN} (h:UI W g n cp l) {i:Nat} (hi:(Ys (some ⟨g,0,none⟩) n cp).ownBlock=some i) :i < W.heap.size:=(World.ownsRow.lt h i hi).2
theorem UI.lt {W:Zc}{g n cp:Nat}{l:List ZN}(h:UI W g n cp l) :g < W.heap.size:=(World.ownsRow.lt h g rfl).2
theorem UI.range {W:Zc}{g n cp:Nat}{l:List ZN}(h:UI W g n cp l)(hn:l.length=n){i:Nat}{v:ZN}(hi:l[i]?=some v) :W.rangeAt g (i*7) v.row:=by
 subst hn;obtain ⟨b,off,e,r⟩:=(F8 (S:=fun _=>False) h (fun _ _ h=>h)).at hi;injection e with e;injection e with e1 e2 _;subst e1 e2;rwa [ZW] at r
theorem lJ (r:Rq)(g n cp i:Nat)(l:List ZN)(v:ZN)(c:Nat->Int)(w:Zc)(hO:UI w g n cp l)(hn:l.length=n)(hi:r.ix=(i:Int))(hl:l[i]?=some v)(hv:Yp v)(hr:UH r)(hm:0<=c 5) :
  Zv Zb 246 #[.agg (ZF r),.slice (some ⟨g,0,none⟩) n cp,.agg (Zi c)] w fun e w'=>e= .returned (.agg (ZF ⟨r.ix,DF v r.am (c 5)⟩))/\UI w' g n cp (l.set i (LX v r.am (c 5)))/\ZA (fun k=>k=g) w w':=by
 have T:=Za (RC.new w r c);have FX:=(Zk.1 hl).1;have HW:=Za (fun w=>FH r n w);rw [show Uu r n=true from decide_eq_true Zf] at HW;have HA:=Za (fun w=>bd v r.am c w hv hm hr.am.1);have HF:=Za (fun x w=>RO r x w);have HO:Zj (UI w g n cp l):=Za hO;have HV:=Za hl;have HX:=Za hi;have HN:=Za hn;have HG:Zj (g < w.heap.size):=Za hO.lt;have k1: ¬(i:Int)< 0:=Zf;have k2: ¬(n:Int)<=(i:Int):=Zf;have k3:(i:Int)< (n:Int):=Zf;obtain ⟨p,hp⟩:=ZR (DF v r.am (c 5));obtain ⟨u,hu⟩:=ZR (LX v r.am (c 5));rw [hp,hu] at HA;rw [hp,hu];clear hO hn hi hl hv hr hm hp hu;go_enter func246,ntmps246;go_upto_region 1 with (fail);simp only [RW];generalize ((w.alloc (.cells (ZF r) 119)).alloc (.cells (Zi c) 30)).alloc (.cells (ZF NO) 119)=W at*;go_wp2_with (first | (refine Kl 119 w.heap.size T.o.1 underlying119 Jq ?_));refine (HW.o _).mono ?_;rintro e w1 ⟨rfl,b1⟩;have T1:=Za (T.o.next b1);clear T b1 HW;go_upto_region 3 with (fail);have O1:Zj (UI w1 g n cp l):=Za (Va HO.o (fun k hk=>by
  simp only [YZ,QW] at hk;subst hk;exact T1.o.2.2.2.block _ HG.o))
 have R1:=Za (O1.o.range HN.o HV.o);go_cut [7,8] from 16 to 28 (fun s7 s8 wx=> ∃b7:Nat,s7= .pointer (some ⟨b7,0,none⟩)/\s8= .int .u64 p/\Zj (Zu wx b7 68 (Ze u)/\Zp w1.heap.size w1 wx))
 case first=>
  refine L5 (fun w'=>Zp w1.heap.size w1 w') 14 6 [0,1,2,3,4,5,6,7] (Zn _ _).drew ?_;refine JH ?_;show wpQuiet _ _ _ _ [_,_,_,_,_,_,_,_] _;refine BZ ?_;refine KY 3 ⟨w.heap.size,0,none⟩ (.int .i64 i) (fun w' h=>(h.cell (p:=⟨w.heap.size,0,none⟩) T1.o.1.lt).trans ((T1.o.1.cell 0).trans (by rw [<-HX.o]; rfl))) ?_;refine X7 ?_;refine U4 ?_;refine Vv 68 _ g (i*7) v _ rfl rfl rfl (fun w' h=>World.rangeAt.same R1.o (h.block g O1.o.lt)) underlying68 rfl Ya ?_;refine X7 ?_;refine U4 ?_;refine KY 23 ⟨w.heap.size,1,none⟩ (.int .u64 r.am) (fun w' h=>(h.cell (p:=⟨w.heap.size,1,none⟩) T1.o.1.lt).trans (T1.o.1.cell 1)) ?_;refine X7 ?_;refine Jb 30 _ (w.heap.size+1) 30 (Zi c) _ rfl rfl rfl (fun w' h=>T1.o.2.1.below h T1.o.2.1.lt) underlying30 rfl Qk ?_;refine X7 ?_;refine Yo ?_;have D0:Zj (Zp w1.heap.size w1 w1.drew):=Za (Zn _ _).drew;generalize w1.drew=w0 at*;refine KC (i:=8) (k:=12) ZC Zf Zf ?_ ?_
  ·refine JA #[.agg (Ze v),.int .u64 r.am,.agg (Zi c)] call276 ((HA.o w0).mono ?_);rintro e w3 ⟨rfl,bb⟩;have D3:Zj (Zp w1.heap.size w1 w3):=Za (D0.o.trans (bb.mono D0.o.size));clear bb;refine ⟨_,rfl,D3.o,?_⟩;refine LA ?_;refine TS (fun w'=>Zp w1.heap.size w1 w') (m:=5) (f:=2) [9,10,11] D3.o ?_;refine JH ?_;refine Nh ?_;refine Ec ?_;refine Yo ?_;refine JC (i:=12) ?_;refine Yv rfl rfl (Kv rfl ?_);have D4:Zj (Zp w1.heap.size w1 (w3.alloc (.cells (Ze ZU) 68))):=Za (D3.o.alloc D3.o.size _);have R4:Zj (Zu (w3.alloc (.cells (Ze ZU) 68)) w3.heap.size 68 (Ze ZU)):=Za (Zs _ _ _);have G4:Zj (w1.heap.size<=w3.heap.size):=Za D3.o.size;refine ⟨D4.o,?_⟩;generalize w3.alloc (.cells (Ze ZU) 68)=w4 at*;refine LA ?_;refine JC (i:=13) ?_;refine Yv rfl rfl (wp_store_row _ _ _ rfl w3.heap.size (Ze u) rfl rfl 68 _ R4.o Ya rfl (Yi _) ?_);have Z:Zj (Zu (w4.setRow w3.heap.size (Ze u)) w3.heap.size 68 (Ze u)/\Zp w1.heap.size w1 (w4.setRow w3.heap.size (Ze u))):=Za ⟨YH _ _ _ _ _ _ R4.o,Xw D4.o G4.o _⟩;refine ⟨Z.o.2,?_⟩;generalize w4.setRow w3.heap.size (Ze u)=w5 at*;exact Zmt
  ·refine Yv rfl rfl (Kv rfl ?_);have D3:Zj (Zp w1.heap.size w1 (w0.alloc (.cells (Ze ZU) 68))):=Za (D0.o.alloc D0.o.size _);have R3:Zj (Zu (w0.alloc (.cells (Ze ZU) 68)) w0.heap.size 68 (Ze ZU)):=Za (Zs _ _ _);have G3:Zj (w1.heap.size<=w0.heap.size):=Za D0.o.size;refine ⟨D3.o,?_⟩;generalize w0.alloc (.cells (Ze ZU) 68)=w3 at*;refine LA ?_;refine JC (i:=8) ?_;refine JA #[.agg (Ze v),.int .u64 r.am,.agg (Zi c)] call276 ((HA.o w3).mono ?_);rintro e w4 ⟨rfl,bb⟩;have D4:Zj (Zp w1.heap.size w1 w4):=Za (D3.o.trans (bb.mono D3.o.size));have R4:Zj (Zu w4 w0.heap.size 68 (Ze ZU)):=Za (R3.o.below bb R3.o.lt);clear bb;refine ⟨_,rfl,D4.o,?_⟩;refine LA ?_;refine TS (fun w'=>Zp w1.heap.size w1 w') (m:=4) (f:=1) [9,10,11] D4.o ?_;refine JH ?_;refine Nh ?_;refine Ec ?_;refine Yo ?_;refine JC (i:=13) ?_;refine Yv rfl rfl (wp_store_row _ _ _ rfl w0.heap.size (Ze u) rfl rfl 68 _ R4.o Ya rfl (Yi _) ?_);have Z:Zj (Zu (w4.setRow w0.heap.size (Ze u)) w0.heap.size 68 (Ze u)/\Zp w1.heap.size w1 (w4.setRow w0.heap.size (Ze u))):=Za ⟨YH _ _ _ _ _ _ R4.o,Xw D4.o G3.o _⟩;refine ⟨Z.o.2,?_⟩;generalize w4.setRow w0.heap.size (Ze u)=w5 at*;exact Zmt
 case rest=>
  obtain ⟨b7,rfl,rfl,Z⟩:=hcut;have T2:=Za (T1.o.next Z.o.2);have O2:Zj (UI wc g n cp l):=Za (O1.o.next Z.o.2);have F2:Zj (wc.there g (i*7) 7/\UI (wc.setCells g (i*7) (Ze u).toList) g n cp (l.set i u)):=Za (by
   have h:=O2.o;unfold UI at h ⊢;have hn:=HN.o;subst hn;have:=PH h HV.o u;exact ⟨this.2,this.1⟩)
  have K2:Zj (Zu (wc.setCells g (i*7) (Ze u).toList) w.heap.size 119 (ZF r)/\Zu (wc.setCells g (i*7) (Ze u).toList) (w.heap.size+2) 119 (ZF NO)/\ZA (fun k=>k=g) w (wc.setCells g (i*7) (Ze u).toList)):=Za (by
   have k:ZA (fun k=>k=g) wc (wc.setCells g (i*7) (Ze u).toList):=QP _ _ _ (ZS _ _) (.inl rfl);have hg:=HG.o;obtain ⟨h1,h2,h3,h4⟩:=T2.o;exact ⟨h1.kept k Zf,h3.kept k Zf,(Y9 h4).trans k (fun _ _ h=>h)⟩)
  have x0:wc.cell? ⟨w.heap.size,0,none⟩=some (.int .i64 (i:Int)):=(T2.o.1.cell 0).trans (by rw [<-HX.o]; rfl);clear T1 O1 R1 HA O2;go_upto_region 5 with (first | (refine Kl 68 b7 Z.o.1 underlying68 Ya ?_) | (refine wpList_store_mid rfl 68 _ _ rfl g (i*7) (Ze u) rfl rfl F2.o.1 Ya (Yi u) ?_));have F3:=Za F2.o.2;clear Z F2 T2 x0;generalize wc.setCells g (i*7) (Ze u).toList=w3 at*;go_wp2_with (first | (refine Kl 119 w.heap.size K2.o.1 underlying119 Jq ?_));refine (HF.o p _).mono ?_;rintro e w4 ⟨rfl,b4⟩;have K4:Zj (Zu w4 (w.heap.size+2) 119 (ZF NO)/\ZA (fun k=>k=g) w w4/\UI w4 g n cp (l.set i u)):=Za ⟨K2.o.2.1.below b4 K2.o.2.1.lt,K2.o.2.2.trans (Y9 (S:=fun k=>k=g) b4) (fun _ _ h=>h),F3.o.next b4⟩;clear K2 F3 b4;go_wp2_with (first | (refine Up (w.heap.size+2) (ZF ⟨r.ix,p⟩) 119 K4.o.1 Jq (Ky _) ?_));have Y:UI (w4.setRow (w.heap.size+2) (ZF ⟨r.ix,p⟩)) g n cp (l.set i u)/\ZA (fun k=>k=g) w (w4.setRow (w.heap.size+2) (ZF ⟨r.ix,p⟩)):=by
   have hg:=HG.o;refine ⟨Va K4.o.2.2 (fun k hk=>?_),K4.o.2.1.setRow (.inr Zf) _⟩;simp only [YZ,QW] at hk;subst hk;exact setRow_other _ _ _ _ Zf
  exact Ye (v:= .agg (ZF ⟨r.ix,p⟩)) (YF (fn:=Tryz.f246) rfl _ _ (w.heap.size+2) 119 (ZF ⟨r.ix,p⟩) (0,0) _ rfl (YH _ _ _ _ _ _ K4.o.1) underlying119 rfl Jq) rfl ⟨rfl,Y⟩
theorem lH (r:Rq)(a:Option Addr)(n cp:Nat)(l:List ZN)(c:Nat->Int)(w:Zc)(hO:w.ownsRow 0 68 7 (.slice a n cp) n (XC l))(hn:l.length=n)(hf: ∀v ∈ l,Yp v)(hr:UH r)(hm:0<=c 5) :
  Zv Zb 246 #[.agg (ZF r),.slice a n cp,.agg (Zi c)] w fun e w'=>e= .returned (.agg (ZF ⟨r.ix,PJ l r (c 5)⟩))/\w'.ownsRow 0 68 7 (.slice a n cp) n (XC (EC l r (c 5)))/\ZA (fun k=>(Ys a n cp).ownBlock=some k) w w':=by
 by_cases h:Uu r l.length=true
 ·obtain ⟨i,v,hi,hv⟩:=IZ h;obtain ⟨_,e1,e2⟩:=cD (c 5) hi hv;have FX:=(Zk.1 hv).1;rw [e1,e2];obtain ⟨g,rfl⟩ : ∃g,a=some ⟨g,0,none⟩:=by
   rcases hO.2 with ⟨_,h0⟩ | ⟨g,Bg,cur,h1,_⟩
   ·omega
   ·injection h1 with h1 _ _;exact ⟨g,h1⟩
  exact (lJ r g n cp i l v c w hO hn hi hv (hf v (Zz hv)) hr hm).mono fun e w' ⟨he,ho,k⟩=>⟨he,ho,k.more (fun i _ e=>by subst e; rfl)⟩
 ·have e1:PJ l r (c 5)=0:=by unfold PJ; rw [if_neg h]
  have e2:EC l r (c 5)=l:=by unfold EC; rw [if_neg h]
  rw [e1,e2];exact (rT r a n cp c w (by rw [<-hn]; simpa using h)).mono fun e w' ⟨he,hb⟩=>⟨he,Va hO (fun k hk=>hb.block k (hO.lt k hk).2),Y9 hb⟩
end
section
open Go Go.RowKit Go.Deep
theorem lU (B b n:Nat)(v:Zl)(P:List Py)(r:Rq)(w:Zc)(hO:w.ownsRow B 252 3 v n (YE V9 P))(hn:P.length=n)(hB:B<=w.heap.size)(hb:Zu w b 119 (ZF r))(h60:n<=4096) :
  Zv Zb 245 #[v,.slice (some ⟨b,0,none⟩) 1 1] w fun e w'=> ∃v',e= .returned v'/\w'.ownsRow B 252 3 v' (P++ML r.ix r.am).length (YE V9 (P++ML r.ix r.am))/\ZA (fun k=>v.ownBlock=some k) w w':=by
 have HO:=Za hO;have HN:=Za hn;have HB:=Za hb;have HS:=Za hB;have HE:=Za (fun w=>IN r w);obtain ⟨j0,OP,GO,Ty,vy⟩:=np;have i1: ¬(0:Int)< 0:=Zf
 by_cases h0:r.am=0
 ·rw [decide_eq_true h0] at HE;have E:Zj (P++ML r.ix r.am=P):=Za (by rw [ML,if_pos h0,List.append_nil]);rw [E.o];clear hO hn hB hb h0 E;go_enter func245,ntmps245;go_wp2_with fail;refine yD ?_;go_wp2_with (first | (refine Kl 119 b HB.o underlying119 Jq ?_) | (refine Up w.heap.size (ZF r) 119 (ZB w _) Jq (Ky _) ?_; rw [Zq]) | (refine Kl 119 w.heap.size (ZB w _) underlying119 Jq ?_));refine (HE.o _).mono ?_;rintro e w1 ⟨rfl,b1⟩;have A1:Zj (Zp w.heap.size w w1):=Za (((Zn _ w).alloc (Zh _) _).trans (b1.mono ZE));clear b1;go_wp2_with fail;rw [Xi];go_wp2_with fail;go_ret;refine ⟨_,rfl,?_,Y9 A1.o⟩;rw [HN.o];exact Vk HO.o A1.o
 ·rw [decide_eq_false h0] at HE;have E:Zj (P++ML r.ix r.am=P++[⟨r.ix,r.am,false⟩]):=Za (by rw [ML,if_neg h0]);rw [E.o];clear hO hn hB hb h0 E;go_enter func245,ntmps245;go_wp2_with fail;refine yD ?_;go_wp2_with (first | (refine Kl 119 b HB.o underlying119 Jq ?_) | (refine Up w.heap.size (ZF r) 119 (ZB w _) Jq (Ky _) ?_; rw [Zq]) | (refine Kl 119 w.heap.size (ZB w _) underlying119 Jq ?_));refine (HE.o _).mono ?_;rintro e w1 ⟨rfl,b1⟩;have K1:Zj (GJ w.heap.size w.heap.size 119 (ZF r) w w1):=Za (by
   have k:=GJ.new (t:=119) (cs:=ZF r) (Zn w.heap.size w) (Zh _);exact ⟨k.1.below b1 k.1.lt,k.2.1.trans (b1.mono k.2.2),Nat.le_trans k.2.2 b1.size⟩)
  have O1:Zj (w1.ownsRow B 252 3 v n (YE V9 P)):=Za (Vk HO.o K1.o.2.1);have x0:=Xx K1.o.1 0;have x1:=Xx K1.o.1 1;clear b1 HB;go_wp2_with (first | (refine LQ rfl 252 _ rfl ⟨r.ix,r.am,false⟩ ZC ?_) | (refine P3 rfl _ ⟨r.ix,r.am,false⟩ rfl rfl ?_) | (at_builtin; refine YR _ rfl (.tmp 16) (.tmp 22) 51 rfl B 252 j0 _ 3 24 underlying51 OP GO Ty vy (Ht _) Zf v n (YE V9 P) rfl (X5 O1.o _) (some ⟨w1.heap.size,0,none⟩) 1 1 (V9 ⟨r.ix,r.am,false⟩) rfl rfl (fun _=>⟨_,rfl,Ax w1 _ _⟩) (Py.row_one _) Vx Zf (by have:=HS.o; have:=K1.o.2.2; simp; omega) ?_; intro v1 w8 ho hg hv));have Z:Zj (w8.ownsRow B 252 3 v1 (n+1) (YE V9 (P++[⟨r.ix,r.am,false⟩]))/\ZA (fun k=>v.ownBlock=some k) w w8):=Za ⟨by rw [Ku,FV]; exact ho,(Y9 K1.o.2.1).alloc _ |>.trans (XF (S:=fun k=>v.ownBlock=some k) hg (fun i hi=>hi.symm)) (fun _ _ h=>h)⟩;clear ho hg hv O1 K1 x0 x1;go_wp2_with fail;rw [Xi];go_wp2_with fail;go_ret;refine ⟨_,rfl,?_,Z.o.2⟩;rw [ZI,HN.o];exact Z.o.1
end
section
open Go Go.RowKit Go.Deep
structure Sp (w wr:Zc)(g9 g11:Nat)(a:Option Addr)(n cp:Nat)(v:Zl)(L:List ZN)(P:List Py)(c:Nat->Int) :Prop where
 cfg:Zu wr w.heap.size 30 (Zi c)
 aft:Zu wr g9 22 #[.slice a n cp]
 pay:Zu wr g11 51 #[v]
 own:wr.ownsRow (w.heap.size+1) 68 7 (.slice a n cp) n (XC L)
 pys:wr.ownsRow (w.heap.size+1) 252 3 v P.length (YE V9 P)
 n9:w.heap.size < g9
 n11:w.heap.size < g11
 below:Zp w.heap.size w wr
section
variable {w wr w':Zc} {g9 g11:Nat} {a:Option Addr} {n cp:Nat} {v:Zl} {L:List ZN} {P:List Py} {c:Nat->Int}
theorem Sp.next (h:Sp w wr g9 g11 a n cp v L P c)(hb:Zp wr.heap.size wr w') :Sp w w' g9 g11 a n cp v L P c:=
 ⟨h.cfg.below hb h.cfg.lt,h.aft.below hb h.aft.lt,h.pay.below hb h.pay.lt,Vk h.own hb,Vk h.pys hb,h.n9,h.n11,h.below.trans (hb.mono h.below.size)⟩
theorem Sp.not_row (h:Sp w wr g9 g11 a n cp v L P c){b t:Nat}{cs:Array Zl}(hb:Zu wr b t cs)(ht:t≠68) : ¬(Ys a n cp).ownBlock=some b:=fun e=>by
 obtain ⟨cur,h1,_⟩:=Gl h.own e;exact JV hb h1 ht rfl
theorem Sp.not_pys (h:Sp w wr g9 g11 a n cp v L P c){b t:Nat}{cs:Array Zl}(hb:Zu wr b t cs)(ht:t≠252) : ¬v.ownBlock=some b:=fun e=>by
 obtain ⟨cur,h1,_⟩:=Gl h.pys e;exact JV hb h1 ht rfl
theorem Sp.turned (h:Sp w wr g9 g11 a n cp v L P c){L':List ZN}(ho:w'.ownsRow 0 68 7 (.slice a n cp) n (XC L'))(k:ZA (fun i=>(Ys a n cp).ownBlock=some i) wr w') :Sp w w' g9 g11 a n cp v L' P c where
 cfg:=h.cfg.kept k (h.not_row h.cfg Y5)
 aft:=h.aft.kept k (h.not_row h.aft Y5)
 pay:=h.pay.kept k (h.not_row h.pay Y5)
 own:=xh ho fun i hi=>by
  obtain ⟨_,_,h1⟩:=Gl h.own hi;exact h1
 pys:=AE h.pys k fun i hi=>by
  obtain ⟨cur,h1,_⟩:=Gl h.pys hi;exact h.not_row h1 Y5
 n9:=h.n9
 n11:=h.n11
 below:=ZA.below h.below k (fun i hi=>by
  obtain ⟨_,_,h1⟩:=Gl h.own hi;omega) h.below.size
theorem Sp.grown (h:Sp w wr g9 g11 a n cp v L P c){v':Zl}{P':List Py}(ho:w'.ownsRow (w.heap.size+1) 252 3 v' P'.length (YE V9 P'))(k:ZA (fun i=>v.ownBlock=some i) wr w') :
  Sp w (w'.setCell ⟨g11,0,none⟩ v') g9 g11 a n cp v' L P' c/\Zu w' g11 51 #[v]:=by
 have hp:=h.pay.kept k (h.not_pys h.pay Y5);have hc:=h.cfg.kept k (h.not_pys h.cfg Y5);have ha:=h.aft.kept k (h.not_pys h.aft Y5);have hr:w'.ownsRow (w.heap.size+1) 68 7 (.slice a n cp) n (XC L):=AE h.own k fun i hi=>by
  obtain ⟨cur,h1,_⟩:=Gl h.own hi;exact h.not_pys h1 Y5
 have hb:Zp w.heap.size w w':=ZA.below h.below k (fun i hi=>by
  obtain ⟨_,_,h1⟩:=Gl h.pys hi;omega) h.below.size
 refine ⟨⟨hc.far (JV hc hp Y5) _,ha.far (JV ha hp Y5) _,hp.set_ 0 v',Ld hr (fun i hi=>?_),Ld ho (fun i hi=>?_),h.n9,h.n11,hb.setCell (Nat.le_of_lt h.n11) _⟩,hp⟩
 ·obtain ⟨cur,h1,_⟩:=Gl hr hi;exact Xr w' _ _ i (JV h1 hp Y5)
 ·obtain ⟨cur,h1,_⟩:=Gl ho hi;exact Xr w' _ _ i (JV h1 hp Y5)
end
theorem eX (w wr:Zc)(g9 g11:Nat)(a:Option Addr)(n cp:Nat)(v:Zl)(L:List ZN)(P:List Py)(c:Nat->Int)(r:Rq)(h:Sp w wr g9 g11 a n cp v L P c)(hn:L.length=n)(hf: ∀v ∈ L,Yp v)(hr:UH r)(hm:0<=c 5)(hP:P.length<=4096) :
  Zv Zb 244 #[.agg (ZF r),.pointer (some ⟨g11,0,none⟩),.pointer (some ⟨g9,0,none⟩),.pointer (some ⟨w.heap.size,0,none⟩)] wr fun e w'=>e= .returned (.tuple #[])/\ ∃v',Sp w w' g9 g11 a n cp v' (EC L r (c 5)) (P++ML r.ix (PJ L r (c 5))) c:=by
 have H0:=Za (h.next ((Zn _ wr).alloc (Zh _) (.cells (ZF r) 119)));have HR:Zj (Zu (wr.alloc (.cells (ZF r) 119)) wr.heap.size 119 (ZF r)):=Za (Zs _ _ _);have HP:=Za (fun (W:Zc) (ho:W.ownsRow 0 68 7 (.slice a n cp) n (XC L))=>lH r a n cp L c W ho hn hf hr hm);have HPL:=Za hP;obtain ⟨x,hx⟩:=ZR (PJ L r (c 5));obtain ⟨L',hL'⟩ : ∃L',EC L r (c 5)=L':=⟨_,rfl⟩;rw [hx,hL'] at HP;rw [hx,hL'];clear h hn hf hr hm hP hx hL';go_enter func244,ntmps244;go_upto_region 1 with (fail);generalize wr.alloc (.cells (ZF r) 119)=W at*;generalize wr.heap.size=rb at*;refine L5 (fun w'=>Zu w' g11 51 #[v]/\Zu w' rb 119 (ZF r)/\Zu w' g9 22 #[.slice a n cp]/\Zu w' w.heap.size 30 (Zi c)) 7 3 [0,1,2,3] ⟨H0.o.pay,HR.o,H0.o.aft,H0.o.cfg⟩ ?_;refine JH ?_;refine Hg ?_;refine KY 51 ⟨g11,0,none⟩ v (fun w' h=>h.1.cell 0) ?_;refine X7 ?_;refine Jb 119 _ rb 119 (ZF r) _ rfl rfl rfl (fun w' h=>h.2.1) underlying119 rfl Jq ?_;refine X7 ?_;refine KY 22 ⟨g9,0,none⟩ (.slice a n cp) (fun w' h=>h.2.2.1.cell 0) ?_;refine X7 ?_;refine Jb 30 _ w.heap.size 30 (Zi c) _ rfl rfl rfl (fun w' h=>h.2.2.2) underlying30 rfl Qk ?_;refine X7 ?_;refine Yo ?_;have H1:=Za (H0.o.next (Zn _ W).drew);have R1:Zj (Zu W.drew rb 119 (ZF r)):=Za HR.o;clear H0 HR;generalize W.drew=w1 at*;refine JC (i:=4) ?_;refine JA #[.agg (ZF r),.slice a n cp,.agg (Zi c)] call246 ((HP.o w1 (QD H1.o.own (XY _))).mono ?_);rintro e w2 ⟨rfl,ho,k⟩;have H2:=Za (H1.o.turned ho k);have R2:Zj (Zu w2 rb 119 (ZF r)):=Za (R1.o.kept k (H1.o.not_row R1.o Y5));clear ho k H1 R1 HP;refine ⟨_,rfl,⟨H2.o.pay,R2.o,H2.o.aft,H2.o.cfg⟩,?_⟩;refine LA ?_;refine Ed ?_;refine Yv rfl rfl (yy _ ⟨r.ix,x⟩ rfl rfl ?_);have H3:=Za (H2.o.next ((Zn _ w2).alloc (Zh _) (.cells (ZF ⟨r.ix,x⟩) 119)));have R3:Zj (Zu (w2.alloc (.cells (ZF ⟨r.ix,x⟩) 119)) rb 119 (ZF r)):=Za (R2.o.alloc _);have B3:Zj (Zu (w2.alloc (.cells (ZF ⟨r.ix,x⟩) 119)) w2.heap.size 119 (ZF ⟨r.ix,x⟩)):=Za (Zs _ _ _);clear H2 R2;generalize w2.alloc (.cells (ZF ⟨r.ix,x⟩) 119)=w3 at*;generalize w2.heap.size=b3 at*;refine ⟨⟨H3.o.pay,R3.o,H3.o.aft,H3.o.cfg⟩,?_⟩;refine LA ?_;refine Lz ?_;refine JA #[v,.slice (some ⟨b3,0,none⟩) 1 1] call245 ((lU (w.heap.size+1) b3 P.length v P ⟨r.ix,x⟩ w3 H3.o.pys rfl (by have:=H3.o.cfg.lt; omega) B3.o HPL.o).mono ?_);rintro e w4 ⟨v',rfl,ho,k⟩;obtain ⟨a4,cp4,rfl,-,-⟩:=hH ho;have Z:=Za (H3.o.grown ho k);have S4:Zj (Zu w4 rb 119 (ZF r)/\Zu w4 g9 22 #[.slice a n cp]/\Zu w4 w.heap.size 30 (Zi c)):=Za ⟨R3.o.kept k (H3.o.not_pys R3.o Y5),H3.o.aft.kept k (H3.o.not_pys H3.o.aft Y5),H3.o.cfg.kept k (H3.o.not_pys H3.o.cfg Y5)⟩;clear ho k H3 R3 B3;refine ⟨_,rfl,⟨Z.o.2,S4.o⟩,?_⟩;refine GD ?_;refine ⟨by kernel_rfl,?_⟩;refine LA ?_;have z1:w4.cell? ⟨g11,0,none⟩=some v:=Z.o.2.cell 0;have z2:w4.frozen? ⟨g11,0,none⟩=false:=Z.o.2.frozen 0;go_wp2;refine U1 ?_;go_wp2_with fail;go_end0;have Y:=Z.o.1;rw [ZI] at Y;exact ⟨rfl,_,Y⟩
end
section
open Go Go.RowKit Go.Deep
theorem iT (a b:Option Addr)(cp cq:Nat)(l:List ZN)(q:List Rq)(c:Nat->Int)(w:Zc)(hL:FL w (fun _=>False) a l)(hq:Vy Rq.row 2 w (fun _=>False) b q)(hf: ∀v ∈ l,Yp v)(hfq: ∀r ∈ q,UH r)(h5:0<=c 5)(vp:0<=c 16)(hl:l.length<=4096)(hql:q.length<=4096)(hcq:q.length<=cq) :
  Zv Zb 207 #[.slice a l.length cp,.slice b q.length cq,.agg (Zi c)] w fun e w'=> ∃v p,e= .returned (.tuple #[v,p,.int .i64 (UX c q)])/\
   w'.ownsRow w.heap.size 68 7 v l.length (XC (XO (c 5) l (q.take (UX c q))))/\w'.ownsRow w.heap.size 252 3 p (KV (c 5) l (q.take (UX c q))).length (YE V9 (KV (c 5) l (q.take (UX c q))))/\Zp w.heap.size w w':=by
 obtain ⟨m,hm⟩:=ZR (UX c q);have hmq:m<=q.length:=by rw [<-hm]; exact Nat.min_le_right _ _
 have rf:min (c 16) (q.length:Int)=(m:Int):=by rw [<-hm]; unfold UX; omega
 have jv:max (0:Int) (m:Int)=(m:Int):=Zf;rw [hm];have hm60:m<=4096:=Zf;have kA:m<=cq:=Zf;have hB:Zu (w.alloc (.cells (Zi c) 30)) w.heap.size 30 (Zi c):=Zs _ _ _;have b0:Zp w.heap.size w (w.alloc (.cells (Zi c) 30)):=(Zn _ _).alloc (Zh _) _;have HB:=Za (Zm hB b0);have HC:=Za (Np (fun _=>False) a cp l (w.alloc (.cells (Zi c) 30)) (hL.below b0) Zf);have HQ:=Za hq;have HF:=Za (fun k=>FF (c 5) h5 (q.take k) l (fun r hr=>hfq r (List.mem_of_mem_take hr)) hf);have HFQ:=Za hfq;have HP:=Za (fun k=>RZ (c 5) (q.take k) l);have HS:Zj ((w.alloc (.cells (Zi c) 30)).heap.size=w.heap.size+1):=Za ZE;obtain ⟨n,hn⟩:=ZR (l.length);obtain ⟨nq,hnq⟩:=ZR (q.length);rw [hn] at HC ⊢;rw [hnq] at rf hmq ⊢;have HN:=Za (Zm hn hnq);have bR: ∀(fn:Fn) (first cap:Array Zl) (w:Zc),(Instr.makeFunc fn first cap).run Zb w= .ok (.func fn first cap) w:=fun _ _ _ _=>rfl
 clear hB b0 hL hq hf hfq hm hn hnq hcq;go_enter func207,ntmps207;go_upto_region 1 with (fail);generalize w.alloc (.cells (Zi c) 30)=W at*;go_wp2_with fail;refine HC.o.mono ?_;rintro e w1 ⟨v,rfl,ho,b1⟩;obtain ⟨a',Bg,rfl,-,-⟩:=UT (Di ho (XY _));have H1:Zj (w1.ownsRow (w.heap.size+1) 68 7 (.slice a' n Bg) n (XC l)/\Zu w1 w.heap.size 30 (Zi c)/\Zp w.heap.size w w1):=Za ⟨HS.o▸ho,HB.o.1.below b1 HB.o.1.lt,HB.o.2.trans (b1.mono HB.o.2.size)⟩;clear ho b1 HB HC HS;go_upto_region 2 with (fail);have H2:Zj ((w1.alloc (.cells #[.slice a' n Bg] 22)).ownsRow (w.heap.size+1) 68 7 (.slice a' n Bg) n (XC l)/\Zu (w1.alloc (.cells #[.slice a' n Bg] 22)) w.heap.size 30 (Zi c)/\Zp w.heap.size w (w1.alloc (.cells #[.slice a' n Bg] 22))/\
   Zu (w1.alloc (.cells #[.slice a' n Bg] 22)) w1.heap.size 22 #[.slice a' n Bg]/\w.heap.size < w1.heap.size):=Za ⟨X5 H1.o.1 _,H1.o.2.1.alloc _,H1.o.2.2.alloc H1.o.2.2.size _,Zs _ _ _,H1.o.2.1.lt⟩
 clear H1;generalize w1.alloc (.cells #[.slice a' n Bg] 22)=w2 at*;generalize w1.heap.size=g9 at*;have x16:=Xx H2.o.2.1 16;go_upto_region 5 with (fail);have A0:Zj (Sp w (w2.alloc (.cells #[.slice none 0 0] 51)) g9 w2.heap.size a' n Bg (.slice none 0 0) (XO (c 5) l (q.take 0)) (KV (c 5) l (q.take 0)) c):=Za
  { cfg:=H2.o.2.1.alloc _,aft:=H2.o.2.2.2.1.alloc _,pay:=Zs _ _ _,own:=X5 H2.o.1 _,pys:=Y4 _ _ _ _,n9:=H2.o.2.2.2.2,n11:=H2.o.2.1.lt,below:=H2.o.2.2.1.alloc H2.o.2.2.1.size _}
 clear H2 x16 rf jv bR;generalize w2.alloc (.cells #[.slice none 0 0] 51)=w3 at*;generalize w2.heap.size=g11 at*;go_wp2;go_loopw [14,28] (fun s14 s28 wr=> ∃(k:Nat) (v:Zl),k<=m/\s28= .int .i64 k/\Zj (Sp w wr g9 g11 a' n Bg v (XO (c 5) l (q.take k)) (KV (c 5) l (q.take k)) c)) (fun _ s28 _=>m -(intOf s28).toNat)
 case atStart=>exact ⟨0,_,by omega,rfl,A0⟩
 case round=>
  obtain ⟨k,v,hk,rfl,HA⟩:=hrel;clear A0
  by_cases XJ:k < m
  ·obtain ⟨r,hr⟩ : ∃r,q[k]?=some r:=⟨_,Zg Yd⟩;obtain ⟨qb,qo,rfl,-,hqb,hrp⟩:=HQ.o.at hr;have HR:=Za hr;have R1:Zj (wr.rangeAt qb (qo+k*2) r.row):=Za (PL hrp (HA.o.below.block qb hqb));have k1: ¬(k:Int)< 0:=Zf;have k2: ¬(m:Int)<=(k:Int):=Zf;have k3:(k:Int)< (m:Int):=Zf;have HCO:Zj (∀w1,Sp w w1 g9 g11 a' n Bg v (XO (c 5) l (q.take k)) (KV (c 5) l (q.take k)) c->Zv Zb 244 #[.agg (ZF r),.pointer (some ⟨g11,0,none⟩),.pointer (some ⟨g9,0,none⟩),.pointer (some ⟨w.heap.size,0,none⟩)] w1 fun e w'=>e= .returned (.tuple #[])/\ ∃v',Sp w w' g9 g11 a' n Bg v' (XO (c 5) l (q.take (k+1))) (KV (c 5) l (q.take (k+1))) c):=Za (fun w1 h=>by
    rw [Iq HR.o,Ip,my];refine eX w w1 g9 g11 a' n Bg v _ _ c r h (by rw [Eb]; exact HN.o.1) (HF.o k) (HFQ.o r (Zz HR.o)) h5 ?_;have:=HP.o k;rw [Xl] at this;omega)
   have A1:=Za (HA.o.next ((Zn _ wr).alloc (Zh _) (.cells (ZF r) 119)));clear hr hrp HA;go_wp2_with (first | (refine Cw rfl 119 _ rfl qb (qo+k*2) rfl r _ R1.o underlying119 rfl Jq ?_) | (refine Up wr.heap.size (ZF r) 119 (ZB wr _) Jq (Ky _) ?_; rw [Zq]) | (refine Kl 119 wr.heap.size (ZB wr _) underlying119 Jq ?_));refine (HCO.o _ A1.o).mono ?_;rintro e w8 ⟨rfl,v',hA8⟩;have A8:=Za hA8;clear hA8 A1 R1 HCO;go_wp2;go_roundw
   case rel=>exact ⟨k+1,v',by omega,by go_num,A8⟩
   case measure=>exact KX
  ·obtain rfl:k=m:=Zf;clear XJ;have XJ: ¬k < k:=Zf;have y9:=Xx HA.o.aft 0;have y11:wr.cell? ⟨g11,0,none⟩=some v:=HA.o.pay.cell 0;go_wp2;go_quiet (fail);go_wp2;go_ret3;exact ⟨_,_,rfl,Di HA.o.own Zf,QD HA.o.pys Zf,below_drewN HA.o.below _⟩
end
section
open Go.RowKit
def kj:Nat->Nat
 | 0=>146
 | 1=>148
 | 2=>149
 | 3=>150
 | 4=>151
 | 5=>153
 | 6=>154
 | 7=>155
 | 8=>156
 | 9=>157
 | 10=>158
 | 11=>159
 | 12=>160
 | 13=>161
 | 14=>162
 | 15=>163
 | 16=>164
 | 17=>165
 | 18=>166
 | 19=>167
 | _=>0
def isI (k:Nat) :Bool:=decide (k < 2\/(10<=k/\k < 18))
def pv (bc k:Nat) :Zl:=if isI k then .pointer (some ⟨bc,k,none⟩) else .pointer none
def qv (bc k:Nat) :Zl:=if isI k then .pointer none else .pointer (some ⟨bc,k,none⟩)
def ent (bp bc k:Nat) :Array Zl:= #[pv bc k,qv bc k,.func (.func (kj k)) #[] #[.pointer (some ⟨bp,0,none⟩)]]
theorem IW (k:Nat)(hk:k < 20)(bp bc:Nat)(c:Nat->Int)(w:Zc)(hp:w.cell? ⟨bp,0,none⟩=some (.pointer (some ⟨bc,0,none⟩)))(hc:Zu w bc 30 (Zi c)) :
  Zv Zb (kj k) #[.pointer (some ⟨bp,0,none⟩)] w fun e w'=>e= .returned (.bool (Yx c k))/\ ∃n,w'=w.drewN n:=by
 have:k=0\/k=1\/k=2\/k=3\/k=4\/k=5\/k=6\/k=7\/k=8\/k=9\/k=10\/k=11\/k=12\/k=13\/k=14\/k=15\/k=16\/k=17\/k=18\/k=19:=Zf
 rcases this with rfl | rfl | rfl | rfl | rfl | rfl | rfl | rfl | rfl | rfl | rfl | rfl | rfl | rfl | rfl | rfl | rfl | rfl | rfl | rfl
 ·exact Zht bp bc c w hp hc
 ·exact Zhu bp bc c w hp hc
 ·exact Zhv bp bc c w hp hc
 ·exact Zhw bp bc c w hp hc
 ·exact Zhx bp bc c w hp hc
 ·exact Zhy bp bc c w hp hc
 ·exact Zhz bp bc c w hp hc
 ·exact ZhA bp bc c w hp hc
 ·exact ZhB bp bc c w hp hc
 ·exact ZhC bp bc c w hp hc
 ·exact Zca bp bc c w hp hc
 ·exact Zcb bp bc c w hp hc
 ·exact Zcc bp bc c w hp hc
 ·exact Zcd bp bc c w hp hc
 ·exact Zce bp bc c w hp hc
 ·exact Zcf bp bc c w hp hc
 ·exact Zcg bp bc c w hp hc
 ·exact Zch bp bc c w hp hc
 ·exact Zci bp bc c w hp hc
 ·exact Zcj bp bc c w hp hc
theorem kD (bp bc:Nat)(w:Zc) :(Yy 178 (.agg (De bp bc)) (.int .i64 (0:Nat))).run Zb w= .ok (.agg (ent bp bc 0)) w:=ZC
theorem kE (bp bc:Nat)(w:Zc) :(Yy 178 (.agg (De bp bc)) (.int .i64 (1:Nat))).run Zb w= .ok (.agg (ent bp bc 1)) w:=ZC
theorem kF (bp bc:Nat)(w:Zc) :(Yy 178 (.agg (De bp bc)) (.int .i64 (2:Nat))).run Zb w= .ok (.agg (ent bp bc 2)) w:=ZC
theorem kG (bp bc:Nat)(w:Zc) :(Yy 178 (.agg (De bp bc)) (.int .i64 (3:Nat))).run Zb w= .ok (.agg (ent bp bc 3)) w:=ZC
theorem kH (bp bc:Nat)(w:Zc) :(Yy 178 (.agg (De bp bc)) (.int .i64 (4:Nat))).run Zb w= .ok (.agg (ent bp bc 4)) w:=ZC
theorem kI (bp bc:Nat)(w:Zc) :(Yy 178 (.agg (De bp bc)) (.int .i64 (5:Nat))).run Zb w= .ok (.agg (ent bp bc 5)) w:=ZC
theorem kJ (bp bc:Nat)(w:Zc) :(Yy 178 (.agg (De bp bc)) (.int .i64 (6:Nat))).run Zb w= .ok (.agg (ent bp bc 6)) w:=ZC
theorem kK (bp bc:Nat)(w:Zc) :(Yy 178 (.agg (De bp bc)) (.int .i64 (7:Nat))).run Zb w= .ok (.agg (ent bp bc 7)) w:=ZC
theorem kL (bp bc:Nat)(w:Zc) :(Yy 178 (.agg (De bp bc)) (.int .i64 (8:Nat))).run Zb w= .ok (.agg (ent bp bc 8)) w:=ZC
theorem kM (bp bc:Nat)(w:Zc) :(Yy 178 (.agg (De bp bc)) (.int .i64 (9:Nat))).run Zb w= .ok (.agg (ent bp bc 9)) w:=ZC
theorem gj (bp bc:Nat)(w:Zc) :(Yy 178 (.agg (De bp bc)) (.int .i64 (10:Nat))).run Zb w= .ok (.agg (ent bp bc 10)) w:=ZC
theorem gl (bp bc:Nat)(w:Zc) :(Yy 178 (.agg (De bp bc)) (.int .i64 (11:Nat))).run Zb w= .ok (.agg (ent bp bc 11)) w:=ZC
theorem gm (bp bc:Nat)(w:Zc) :(Yy 178 (.agg (De bp bc)) (.int .i64 (12:Nat))).run Zb w= .ok (.agg (ent bp bc 12)) w:=ZC
theorem gn (bp bc:Nat)(w:Zc) :(Yy 178 (.agg (De bp bc)) (.int .i64 (13:Nat))).run Zb w= .ok (.agg (ent bp bc 13)) w:=ZC
theorem gp (bp bc:Nat)(w:Zc) :(Yy 178 (.agg (De bp bc)) (.int .i64 (14:Nat))).run Zb w= .ok (.agg (ent bp bc 14)) w:=ZC
theorem gq (bp bc:Nat)(w:Zc) :(Yy 178 (.agg (De bp bc)) (.int .i64 (15:Nat))).run Zb w= .ok (.agg (ent bp bc 15)) w:=ZC
theorem gu (bp bc:Nat)(w:Zc) :(Yy 178 (.agg (De bp bc)) (.int .i64 (16:Nat))).run Zb w= .ok (.agg (ent bp bc 16)) w:=ZC
theorem gw (bp bc:Nat)(w:Zc) :(Yy 178 (.agg (De bp bc)) (.int .i64 (17:Nat))).run Zb w= .ok (.agg (ent bp bc 17)) w:=ZC
theorem gx (bp bc:Nat)(w:Zc) :(Yy 178 (.agg (De bp bc)) (.int .i64 (18:Nat))).run Zb w= .ok (.agg (ent bp bc 18)) w:=ZC
theorem gy (bp bc:Nat)(w:Zc) :(Yy 178 (.agg (De bp bc)) (.int .i64 (19:Nat))).run Zb w= .ok (.agg (ent bp bc 19)) w:=ZC
theorem rn (bp bc k:Nat)(hk:k < 20)(w:Zc) :(Yy 178 (.agg (De bp bc)) (.int .i64 k)).run Zb w= .ok (.agg (ent bp bc k)) w:=by
 have:k=0\/k=1\/k=2\/k=3\/k=4\/k=5\/k=6\/k=7\/k=8\/k=9\/k=10\/k=11\/k=12\/k=13\/k=14\/k=15\/k=16\/k=17\/k=18\/k=19:=Zf
 rcases this with rfl | rfl | rfl | rfl | rfl | rfl | rfl | rfl | rfl | rfl | rfl | rfl | rfl | rfl | rfl | rfl | rfl | rfl | rfl | rfl
 ·exact kD bp bc w
 ·exact kE bp bc w
 ·exact kF bp bc w
 ·exact kG bp bc w
 ·exact kH bp bc w
 ·exact kI bp bc w
 ·exact kJ bp bc w
 ·exact kK bp bc w
 ·exact kL bp bc w
 ·exact kM bp bc w
 ·exact gj bp bc w
 ·exact gl bp bc w
 ·exact gm bp bc w
 ·exact gn bp bc w
 ·exact gp bp bc w
 ·exact gq bp bc w
 ·exact gu bp bc w
 ·exact gw bp bc w
 ·exact gx bp bc w
 ·exact gy bp bc w
theorem qz (k:Nat)(hk:k < 20)(args:Array Zl)(w:Zc) :(callFunc (kj k) args).run Zb w= .ok (.enter (kj k) args) w:=by
 have:k=0\/k=1\/k=2\/k=3\/k=4\/k=5\/k=6\/k=7\/k=8\/k=9\/k=10\/k=11\/k=12\/k=13\/k=14\/k=15\/k=16\/k=17\/k=18\/k=19:=Zf
 rcases this with rfl | rfl | rfl | rfl | rfl | rfl | rfl | rfl | rfl | rfl | rfl | rfl | rfl | rfl | rfl | rfl | rfl | rfl | rfl | rfl
 ·exact call146 args w
 ·exact call148 args w
 ·exact call149 args w
 ·exact call150 args w
 ·exact call151 args w
 ·exact call153 args w
 ·exact call154 args w
 ·exact call155 args w
 ·exact call156 args w
 ·exact call157 args w
 ·exact call158 args w
 ·exact call159 args w
 ·exact call160 args w
 ·exact call161 args w
 ·exact call162 args w
 ·exact call163 args w
 ·exact call164 args w
 ·exact call165 args w
 ·exact call166 args w
 ·exact call167 args w
theorem nC (bp bc k:Nat) :(ent bp bc k).all (·.oneCell')=true:=by
 unfold ent pv qv
 cases isI k <;> simp [Value.oneCell']
theorem wu:(Tryz.prog.info? 177).map (·.size)=some 3:=ZC
theorem qi (c:Nat->Int)(w:Zc) :
  Z3 73 #[.agg (Zi c)] w (.int .i64 (TM c)):=by
 unfold Zi;go_enter func73,ntmps73;go_wp2_with (first
  | (go_at_call 119; refine (ft _ _).mono ?_; rintro e w1 ⟨rfl,Hj,hbel1⟩))
 go_loopw [6] (fun v wr=> ∃k:Nat,k<=20/\v= .int .i64 (k:Int)/\Em c k/\Zu wr w.heap.size 30 (Zi c)/\Zu wr (w.heap.size+1) 180 #[.pointer (some ⟨w.heap.size,0,none⟩)]/\Zp w.heap.size w wr) (fun v _=>(21 - intOf v).toNat)
 case atStart=>
  refine ⟨0,by omega,rfl,Ml c,(Zs w 30 (Zi c)).below hbel1 ZE,by simpa using Hj,((Zn _ _).alloc (Zh _) _).trans (hbel1.mono ZE)⟩
 case round=>
  obtain ⟨k,hk,rfl,hbf,hb,hp,Tw⟩:=hrel;have XJ:=hb.lt;have Pv:=hp.lt;clear Hj hbel1
  by_cases h20:k < 20
  ·have hix: ∀W,(Yy 178 (.agg (De (w.heap.size+1) w.heap.size)) (.int .i64 k)).run Zb W= .ok (.agg #[pv w.heap.size k,qv w.heap.size k,.func (.func (kj k)) #[] #[.pointer (some ⟨w.heap.size+1,0,none⟩)]]) W:=rn (w.heap.size+1) w.heap.size k h20;have hen:=qz k h20
   cases hr:Yx c k with
   | false=>
    have R:Zj (∀W (hp:W.cell? ⟨w.heap.size+1,0,none⟩=some (.pointer (some ⟨w.heap.size,0,none⟩))) (hc:Zu W w.heap.size 30 (Zi c)),_):=Za (fun W hp hc=>IW k h20 (w.heap.size+1) w.heap.size c W hp hc);rw [hr] at R;have H:=Za (jQ h20 hbf hr);clear hr;go_wp2_with (first
     | (refine YQ rfl _ _ _ rfl wr.heap.size #[pv w.heap.size k,qv w.heap.size k,.func (.func (kj k)) #[] #[.pointer (some ⟨w.heap.size+1,0,none⟩)]] rfl rfl 177 _ (ZB wr _) wu rfl (nC _ _ _) ?_; rw [Zq])
     | (refine (R.o _ ((hp.alloc _).cell 0) (hb.alloc _)).mono ?_; rintro e w1 ⟨rfl,n,rfl⟩))
    go_ret;exact ⟨Lh H.o.symm,below_drewN (Tw.alloc Zf _) n⟩
   | true=>
    have R:Zj (∀W (hp:W.cell? ⟨w.heap.size+1,0,none⟩=some (.pointer (some ⟨w.heap.size,0,none⟩))) (hc:Zu W w.heap.size 30 (Zi c)),_):=Za (fun W hp hc=>IW k h20 (w.heap.size+1) w.heap.size c W hp hc);rw [hr] at R;have H:=Za (Mj hbf hr);clear hr;go_wp2_with (first
     | (refine YQ rfl _ _ _ rfl wr.heap.size #[pv w.heap.size k,qv w.heap.size k,.func (.func (kj k)) #[] #[.pointer (some ⟨w.heap.size+1,0,none⟩)]] rfl rfl 177 _ (ZB wr _) wu rfl (nC _ _ _) ?_; rw [Zq])
     | (refine (R.o _ ((hp.alloc _).cell 0) (hb.alloc _)).mono ?_; rintro e w1 ⟨rfl,n,rfl⟩))
    go_roundw
    case rel=>exact ⟨k+1,by omega,by go_num,H.o,(hb.alloc _).drewN n,(hp.alloc _).drewN n,below_drewN (Tw.alloc Zf _) n⟩
    case measure=>exact KX
  ·exact ZeZ
end
section
open Go Go.ChangeShapes Go.WideShapes Go.RowKit Go.Deep
structure Sx where
 bk:Int
 ep:Int
 va:Option Addr
 vn:Nat
 vc:Nat
 D:Int
 P:Int
 B:Int
 ac:Int
 pa:Option Addr
 pn:Nat
 pc:Nat
 fa:Option Addr
 fn:Nat
 fc:Nat
 wa:Option Addr
 wn:Nat
 wc:Nat
 ma:Option Addr
 mn:Nat
 mc:Nat
 ta:Option Addr
 tn:Nat
 tc:Nat
 cu:Int
 cy:Int
 un:Int
def Sx.row (v:Sx) :List Zl:= [.int .i64 v.bk,.int .i64 v.ep,.slice v.va v.vn v.vc,.int .u64 v.D,.int .u64 v.P,.int .u64 v.B,.int .u64 v.ac,.slice v.pa v.pn v.pc,.slice v.fa v.fn v.fc,.slice v.wa v.wn v.wc,.slice v.ma v.mn v.mc,.slice v.ta v.tn v.tc,.int .i64 v.cu,.int .u64 v.cy,.int .i64 v.un]
def ZH (v:Sx) :Array Zl:=v.row.toArray
def J64 (x:Int) :Prop:= -9223372036854775808<=x/\x<=9223372036854775807
def pI (x:Int) :Prop:=0<=x/\x<=18446744073709551615
structure ZgN (v:Sx) :Prop where
 bk:J64 v.bk
 ep:J64 v.ep
 D:pI v.D
 P:pI v.P
 B:pI v.B
 ac:pI v.ac
 un:J64 v.un
 mn:v.mn<=XL
 tn:v.tn<=XL
structure Be (w:Zc)(S:Nat->Prop)(v:Sx)(V:List ZN)(pd F W:List Int) :Prop where
 nums:ZgN v
 vl:FL w S v.va V
 vn:V.length=v.vn
 vc:v.vn<=v.vc/\v.vc<=XL
 vf: ∀x ∈ V,Yp x
 pl:XS w S v.pa pd
 pn:pd.length=v.pn
 pc:v.pn<=v.pc/\v.pc<=XL
 pf: ∀x ∈ pd,(Lit.int .i64 x).wf=true
 fl:XS w S v.fa F
 fn:F.length=v.fn
 fc:v.fn<=v.fc/\v.fc<=XL
 ff: ∀x ∈ F,(Lit.int .i64 x).wf=true
 wl:XS w S v.wa W
 wn:W.length=v.wn
 wc:v.wn<=v.wc/\v.wc<=XL
 wf: ∀x ∈ W,(Lit.int .i64 x).wf=true
def QB (v:Sx)(V:List ZN)(pd F W:List Int) :An:=⟨v.bk,v.ep,V,v.D,v.P,v.B,v.ac,pd,F,W,v.mn,v.tn,v.un⟩
theorem Sx.row_one (v:Sx) : ∀u ∈ v.row,u.oneCell'=true:=by
 intro u hu;simp only [Sx.row,ZX,Yk,or_false] at hu
 rcases hu with rfl | rfl | rfl | rfl | rfl | rfl | rfl | rfl | rfl | rfl | rfl | rfl | rfl | rfl | rfl <;> rfl
theorem EZ (v:Sx) :(ZH v).all (·.oneCell')=true:=by
 refine ZQ.2 (fun u hu=>Sx.row_one v u (by simpa [ZH] using hu))
theorem BM:(Tryz.prog.info? 28).map (·.size)=some 15:=ZC
section
variable {w w':Zc} {S T:Nat->Prop} {v:Sx} {V:List ZN} {pd F W:List Int}
theorem Be.below (h:Be w S v V pd F W)(hb:Zp w.heap.size w w') :Be w' S v V pd F W:= { h with vl:=h.vl.below hb,pl:=h.pl.below hb,fl:=h.fl.below hb,wl:=h.wl.below hb}
end
end
section
open Go Go.RowKit Go.Deep
def Us (w:Zc)(base:Nat)(v:Zl)(l:List Int) :Prop:=w.ownsRow base 3 1 v l.length (l.map (ZG .i64))
theorem vm (n:Nat)(w:Zc)(hn:n<=20000) :Zv Zb 145 #[.slice none 0 0,.int .i64 n] w fun e w'=> ∃v,e= .returned v/\Us w' w.heap.size v []/\Zp w.heap.size w w':=by
 have h1: ¬((n:Int)< 0):=Zf
 by_cases h0:n=0
 ·subst h0;go_enter func145,ntmps145;exact y8
 ·obtain ⟨i0,Oi,GO,Ty,RF⟩:=Gj;have BK:(ZG .i64 0).cells.size=1:=rfl;have hold:(Builtin.firstCells i0.size 0 (.slice none 0 0)).run Zb w.drew= .ok ([] :List Zl).toArray w.drew:=run_firstCells_none w.drew i0.size 0 0 0;have Af:=growslice_fits (old:=0) (need:=n) (bytes:=8) Zf Zf;have hrz: ∀ty,(Builtin.append_ #[24,3] ty #[.slice none 0 0,.int .i64 (n:Int)]).run Zb w= .ok (.slice (some ⟨w.heap.size,0,none⟩) n (grownCap w n 0 3)) (w.drew.alloc (.cells (([] :List Zl).toArray++Y3 (ZG .i64 0).cells n++Y3 (ZG .i64 0).cells (grownCap w n 0 3 - n)) 3)):=fun ty=>by
   have h:=Lib.run_append_grow_zeros w 24 3 ty 3 i0 (.int .i64 0) .i64 .i64 underlying24 underlying3 Oi GO none 0 0 [] hold n Zf Zf Zf Zf (by rw [RF]; omega) (by rw [ZW,RF]; exact Af);rw [ZW] at h;exact h
  have hG:=grownCap_ge w n 0 3;have hG2:=grownCap_le_maxLen w n 0 3 Vx;obtain ⟨G,hGe⟩:=ZR (grownCap w n 0 3);rw [hGe] at hrz hG hG2;have hG63:G<=9223372036854775807:=by unfold XL at hG2; omega
  have HO:Zj (∀X:Array Zl,X.size=G->Us (w.alloc (.cells X 3)).drew w.heap.size (.slice (some ⟨w.heap.size,0,none⟩) 0 G) []):=Za fun X hX=>⟨rfl,.inr ⟨w.heap.size,G,X,rfl,Zh _,(Zs w _ _).drew,XY _,hG2,by rw [hX,Nat.mul_one],rfl⟩⟩
  have HB:Zj (∀X:Array Zl,Zp w.heap.size w (w.alloc (.cells X 3)).drew):=Za fun X=>((Zn _ _).alloc (Zh _) _).drew
  have h3:wrap64 (n:Int)=(n:Int):=Rb
  have h4:(n:Int)>0:=Zf;clear hGe hG2 Af hold BK Oi GO Ty RF h0;go_enter func145,ntmps145;go_wp2_with (at_builtin; refine Lib.wpList_append_run _ rfl _ _ _ _ rfl _ _ rfl rfl _ _ (hrz _) ?_)
  all_goals
   go_ret;exact ⟨_,rfl,HO.o _ (by simp [size_zeroCells]; omega),HB.o _⟩
theorem Mi {ops:Array Oper}{rest:List Oper}{o:Oper}{c:Act}{w:Zc}{Q:Exit->Act->Zc->Prop}{base cap m:Nat}{v:Zl}{l M:List Int}{p:Option Addr}{S:Nat->Prop}(H:Us w base v l)(hM:XS w S p M)(hm:M.length=m)
  (DD:o.guard=none) (s x:YW) (ho:o.op= .call { callee:= .builtin .append,args:= #[s,x],argTypes:= #[24,24]}) (hs:c.eval s=v) (hx:c.eval x= .slice p m cap) (nN:l.length+m<=4000000) (WY:base<=w.heap.size)
  (K: ∀v' w',Us w' base v' (l++M)->w.grownBy w' v.ownBlock->Y2 Zb ops Q rest (c.put o.dst v') w') :Y2 Zb ops Q (o::rest) c w:=by
 obtain ⟨i8,tr,wk,wi,hb8⟩:=Gj;subst hm;refine YR w DD s x 24 ho base 3 i8 _ 1 8 underlying24 tr wk wi hb8 rfl Zf v l.length _ hs H p M.length cap (M.map (ZG .i64)) hx ZE (fun h0=>?_) (fun u hu=>?_) Vx Zf WY fun v' w' h1 h2 h3=>K v' w' ?_ h2
 ·exact Zmr
 ·obtain ⟨i,_,rfl⟩:=List.mem_map.1 hu;rfl
 ·unfold Us;exact zC
theorem Us.grown {w w1 w2:Zc}{v:Zl}{l:List Int}{n0:Nat}(h:Us w1 n0 v l)(hb:Zp n0 w w1)(hs:n0<=w1.heap.size)(hg:w1.grownBy w2 v.ownBlock) :Zp n0 w w2:=hb.grown hg hs (fun j hj=>by
 rcases h.2 with ⟨h1,_⟩ | ⟨g,Bg,cur,h1,h2,_⟩
 ·rw [h1] at hj; cases hj
 ·rw [h1] at hj; simp [YZ] at hj; omega)
theorem jS (S:Nat->Prop)(fa wa:Option Addr)(fn fc wn wc g:Nat)(F W:List Int)(w:Zc)(hF:XS w S fa F)(hW:XS w S wa W)(hf:F.length=fn)(hw:W.length=wn)(bf:fn<=10000)(bw:wn<=10000)
  (h0:w.cell? ⟨g,0,none⟩=some (.slice fa fn fc)) (h1:w.cell? ⟨g,1,none⟩=some (.slice wa wn wc)) :
  Zv Zb 106 #[.slice (some ⟨g,0,none⟩) 2 2] w fun e w'=> ∃v,e= .returned v/\Us w' w.heap.size v (F++W)/\Zp w.heap.size w w':=by
 have HF:=Za hF;have HW:=Za hW;have HL:=Za (Zm hf hw);have G0:=Za (Zm (GW h0) (Zm h0 h1));have HG:Zj (∀W,Zv Zb 145 #[.slice none 0 0,.int .i64 ((fn:Int)+(wn:Int))] W fun e w'=> ∃v,e= .returned v/\Us w' W.heap.size v []/\Zp W.heap.size W w'):=Za (fun W=>by
  have:=vm (fn+wn) W Zf;rwa [show (((fn+wn:Nat)) :Int)=(fn:Int)+(wn:Int) by omega] at this)
 have dV: ¬(fn:Int)< 0:=Zf;have kB: ¬((fn+wn:Nat) :Int)< 0:=Zf;have hn3: ¬(fn:Int)+(wn:Int)< 0:=Zf;have Px:wrap64 ((fn:Int)+(wn:Int))=((fn+wn:Nat) :Int):=Rb
 have OQ:wrap64 (fn:Int)=(fn:Int):=Rb
 clear hF hW hf hw;go_enter func106,ntmps106;go_wp2_with fail;refine mY ?_;go_wp2_with fail;rw [Xi];go_wp2_with fail;rw [Xi];go_wp2_with fail;refine (HG.o w).mono ?_;rintro e w1 ⟨v0,rfl,ho,hb⟩;have O1:=Za ho;have B1:=Za hb;have c0:=(hb.cell (p:=⟨g,0,none⟩) G0.o.1).trans h0;have c1:=(hb.cell (p:=⟨g,1,none⟩) G0.o.1).trans h1;have HF1:=Za (HF.o.below hb);clear ho hb h0 h1 HG;obtain ⟨n0,LG⟩:=ZR (w.heap.size);rw [LG] at O1 B1;have jr:=Za LG;clear LG;go_wp2_with fail;refine mY ?_;go_wp2_with (first | (refine Mi O1.o HF1.o HL.o.1 rfl _ _ rfl rfl rfl Xo (by rw [<-jr.o]; exact B1.o.size) ?_; intro v1 w2 ho hg));have O2:Zj (Us w2 n0 v1 F):=Za ho;have B2:Zj (Zp n0 w w2):=Za (O1.o.grown B1.o (by rw [<-jr.o]; exact B1.o.size) hg);have HW2:Zj (XS w2 S wa W):=Za (HW.o.below (by rw [jr.o]; exact B2.o));have c1:w2.cell? ⟨g,1,none⟩=some (.slice wa wn wc):=(B2.o.cell (p:=⟨g,1,none⟩) (by rw [<-jr.o]; exact G0.o.1)).trans G0.o.2.2;clear ho hg O1 HF1 c0 B1;rw [Xi];go_wp2_with (first | (refine Mi O2.o HW2.o HL.o.2 rfl _ _ rfl rfl rfl (by have:=HL.o; omega) (by rw [<-jr.o]; exact B2.o.size) ?_; intro v2 w3 ho hg));have O3:=Za ho;have B3:Zj (Zp n0 w w3):=Za (O2.o.grown B2.o (by rw [<-jr.o]; exact B2.o.size) hg);clear ho hg O2 HW2 B2 c1;rw [Xi];go_wp2_with fail;go_ret;exact ⟨_,rfl,by rw [jr.o]; exact O3.o,by rw [jr.o]; exact B3.o⟩
end
end Go.Proofs.YtobgbcdgffgdhaaGreat
