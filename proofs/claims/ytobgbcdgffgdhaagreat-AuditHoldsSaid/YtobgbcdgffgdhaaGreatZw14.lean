/- Part 14 of 31: L08Due L14Now L08DueB L21Rc L21Make WrapO L17Req L17Apply L17Pay L17Rec L17Collect L17Step L03CheckC Sx Cat. -/
import Derived.Test.YtobgbcdgffgdhaaGreatZw00
import Derived.Test.YtobgbcdgffgdhaaGreatZw13
import Derived.Lib.AppendZerosOnto
namespace Go.Proofs.YtobgbcdgffgdhaaGreat
set_option linter.unusedVariables false
set_option linter.unusedSimpArgs false
set_option maxRecDepth 100000
set_option maxHeartbeats 8000000
open _root_.And renaming intro -> Zn
open _root_.Array renaming all_eq_true_iff_forall_mem -> ZK
open _root_.Go.RowKit renaming Below -> Zp
open _root_.Go.RowKit.Below renaming heap_setCell -> Xg, refl -> Zo
open _root_.Go.Proofs.YtobgbcdgffgdhaaGreat.Zu renaming ne_ -> Js, new -> Zt
open _root_.Go.Builtin renaming zeroCells -> YM
open _root_.Go renaming Calls -> Zv, Operand -> YN, Value -> Zk, World -> Zc, below_setRow -> Xt, bodyPost_ret -> Yd, heap_alloc_new -> ZA, maxLen -> X8, results_cell_row -> YC, rounds_succ -> Y4, setRow_heap -> YA, wpList -> YQ, wpList_store_row -> YH
open _root_.Go.Instr renaming index -> Yn
open _root_.Go.IntKind renaming signed -> V9
open _root_.Go.Proofs.YtobgbcdgffgdhaaGreat.Zx renaming of_below -> YR, of_grown -> Xu, refl -> ZM, setCells -> Q6
open _root_.List renaming filter_append -> QJ, getElem?_eq_getElem -> Zg, getElem?_eq_some_iff -> Zj, length_append -> ZF, length_take -> Xr, map_append -> Xv, mem_cons -> ZU, mem_of_getElem? -> Zy, not_mem_nil -> Yg
open _root_.Nat renaming le_refl -> Zh, zero_add -> ZV, zero_le -> Qu
open _root_.Option.some renaming injEq -> QC
open _root_.Go.Proofs.YtobgbcdgffgdhaaGreat.Py renaming row -> Vw
open _root_.Go.Proofs.Tryz renaming prog -> Zb
open _root_.Go.Value renaming int -> ZI, oneCell' -> Kn, ownBlock -> Y7, slice -> Yj
open _root_.Go.World.ownsRow renaming alloc -> Qv
open _root_.Go.World renaming ownsRow_nil -> YX, setRow_alloc_new -> Zr
open Go.Proofs.Tryz
theorem FO {G:Prop}(h:G:=by simpa using hs) :G:=h
theorem ZO {G:Prop}(h:G:=by have:=HN.o; omega) :G:=h
theorem ZbM {G:Prop} (h:G:=by
  go_wp2;go_ret;exact ⟨congrArg (fun x=>Ending.returned (.int .i64 x)) E.o.symm,K2.o.2.1⟩) :G:=h
theorem ZbN {G:Prop} (h:G:=by
  go_wp2;go_ret;exact ⟨congrArg (fun x=>Ending.returned (.int .u64 x)) E.o.symm,T.o.2.2⟩) :G:=h
theorem Zhu {G:Prop} (h:G:=by
  clear hb hn h0 hi hv E0 hs;go_enter func134,ntmps134;go_upto_region 1 with (fail);generalize w.alloc (.cells (ZB r) 119)=W at*;go_wp2_with (first | (refine Kz 119 w.heap.size HK.o.1 underlying119 Jb ?_));refine (HK.o.call (HW.o _)).mono ?_;rintro e w1 ⟨rfl,k1'⟩;have K1:=Za k1';clear k1' HK;go_wp2_with (first | (refine Kz 119 w.heap.size K1.o.1 underlying119 Jb ?_));refine (K1.o.call (HE.o _)).mono ?_;rintro e w2 ⟨rfl,k2'⟩;have K2:=Za k2';clear k2' K1;obtain ⟨b,off,rfl,hr⟩:=(HL.o.below K2.o.2.1).at HV.o;have x1:w2.cell? ⟨b,off+i*7+1,none⟩=some (.int .i64 v.st):=hr 1 _ rfl;have x0:w2.cell? ⟨w.heap.size,0,none⟩=some (.int .i64 (i:Int)):=(K2.o.1.cell 0).trans (by rw [<-HX.o]; rfl);clear hr;exact ZbM) :G:=h
theorem ZhG {G:Prop} (h:G:=by
  clear hs hl hv hm hb;go_enter func292,ntmps292;go_upto_region 1 with (fail);generalize (w.alloc (.cells (Zd v) 68)).alloc (.cells (Zi c) 30)=W at*;obtain ⟨x0,x1,x2,x3⟩:=T.o.cells;rw [HL.o] at x2;go_wp2_with fail;refine (HS.o _).mono ?_;rintro e w1 ⟨rfl,rfl⟩;exact ZbN) :G:=h
theorem ZhI {G:Prop} (h:G:=by
  refine GO ?_;refine ⟨by kernel_rfl,?_⟩;refine Mh ?_;go_wp2;refine Gy ?_;go_wp2_with fail;go_meet;exact ⟨_,rfl,rfl,Z⟩) :G:=h
theorem ZhX {G:Prop} (h:G:=by
  clear hx;go_enter func192,ntmps192;go_upto_region 1 with (fail);generalize w.alloc (.cells (ZB r) 119)=W at*;have x0:=QS HB.o.1 0;go_wp2;go_ret;exact ⟨VJ E.o.symm,HB.o.2⟩) :G:=h
theorem ZhZ {G:Prop} (h:G:=by
  exact bodyPost_ret (results_cell_row rfl _ _ (w.heap.size+1) 53 _ (0,0) _ rfl (setRow_heap _ _ _ _ _ _ KZ.o) underlying53 rfl Vi) rfl ⟨rfl,below_setRow B0.o Zf _⟩) :G:=h
theorem ZaV {G:Prop} (h:G:=by
  exact ZbN) :G:=h
theorem Zbl {G:Prop} (h:G:=by
  go_enter func299,ntmps299;go_wp2;go_ret2;exact ⟨rfl,rfl⟩) :G:=h
section
open Go Go.RowKit Go.Deep
section
variable {ops:Array Oper} {rest:List Oper} {o:Oper} {a:Act} {w:Zc} {Q:Exit->Act->Zc->Prop}
theorem WW (BJ:o.guard=none)(x:YN)(ho:o.op= .buildSlice 165 1 #[(0,x)])(v:QW)(hx:a.eval x= .agg (Jy v))
  (h:YQ Zb ops Q rest (a.put o.dst (.slice (some ⟨w.heap.size,0,none⟩) 1 1)) (w.alloc (.cells (Jy v) 271))) :YQ Zb ops Q (o::rest) a w:=
 wpList_plain BJ fun _ hK=>Jl 165 271 x _ (.int .i64 v.1) (.int .i64 v.2) ho hx underlying165 Al (hK _ _ h)
theorem Og (BJ:o.guard=none)(s x:YN)(ho:o.op= .call { callee:= .builtin .append,args:= #[s,x],argTypes:= #[165,165]})
  (g r cp q:Nat) (v:QW) (hs:a.eval s= .slice (some ⟨g,0,none⟩) r cp) (hx:a.eval x= .slice (some ⟨q,0,none⟩) 1 1) (hq: ∀j u,(Br v)[j]?=some u->w.cell? ((⟨q,0,none⟩ :Addr).add j)=some u) (hr:r+1<=cp) (ht:w.there g (r*2) 2)
  (h:YQ Zb ops Q rest (a.put o.dst (.slice (some ⟨g,0,none⟩) (r+1) cp)) (w.setCells g (r*2) (Br v))) :YQ Zb ops Q (o::rest) a w:=by
 refine wpList_plain BJ fun K hK=>?_
 obtain ⟨i,hi,hz,CT,MG⟩:=CE;have GH:=run_append_room_cells (P:=Zb) w 165 o.type 271 i underlying165 hi g 0 r cp ⟨q,0,none⟩ 1 1 (Br v) (by rw [CT]; rfl) hq (MQ v) hr
  (fun j hj=>by rw [CT,ZV]; exact (ht j hj).1) (fun j hj=>by rw [CT,ZV]; exact (ht j hj).2)
 rw [CT,ZV] at GH;unfold Oper.wp;simp [execOp,ho,resolve,invoke,builtin,hs,hx,GH,Result.andThen];exact hK _ _ h
end
def UO (ep:Int)(l:List QW) :List QW:=l.filter fun e=>!(e.1==ep)
def KS (ep:Int)(l:List QW) :List Int:=(l.filter fun e=>e.1==ep).map (·.2)
theorem Me (ep:Int)(l:List QW)(x:QW) :UO ep (l++[x])=if x.1=ep then UO ep l else UO ep l++[x]:=by
 unfold UO;rw [QJ]
 by_cases h:x.1=ep <;> simp [h]
theorem Aq (ep:Int)(l:List QW)(x:QW) :KS ep (l++[x])=if x.1=ep then KS ep l++[x.2] else KS ep l:=by
 unfold KS;rw [QJ,Xv]
 by_cases h:x.1=ep <;> simp [h]
theorem qC (ep:Int)(l:List QW) :(KS ep l).length<=l.length:=by unfold KS; rw [List.length_map]; exact List.length_filter_le _ _
theorem aZ {l:List QW}{k:Nat}{v:QW}(h:l[k]?=some v) :l.take (k+1)=l.take k++[v]:=lg
structure jn (w0 w:Zc)(g cp q k r:Nat)(ep:Int)(l:List QW)(v:Zk) :Prop where
 len:(UO ep (l.take k)).length=r
 row:RG w g cp q (UO ep (l.take k)++l.drop r)
 o:w.ownsRow w0.heap.size 3 1 v (KS ep (l.take k)).length ((KS ep (l.take k)).map (ZI .i64))
 kept:Zx (fun i=>i=g) w0 w
def Nf (w:Zc)(b B n j:Nat)(ss:List Zk)(s:Zk)(L:List QW)(ep:Int)(e:Ending)(w':Zc) :Prop:=
 ∃v s',e= .returned v/\w'.ownsRow w.heap.size 3 1 v (KS ep L).length ((KS ep L).map (ZI .i64))/\KL w' b B n (ss.set j s') (UO ep L)/\s'.ownBlock=s.ownBlock/\Zx (fun i=>i=B\/s.ownBlock=some i) w w'
theorem aX {w w3:Zc}{b B n j:Nat}{s s':Zk}{ss:List Zk}{L:List QW}{ep:Int}(h:KL w b B n ss L)(hs:ss[j]?=some s)(hj:ep%(n:Int)=(j:Int))
  (hk:Zx (fun i=>s.ownBlock=some i) w w3) (ho:w3.ownsRow 0 271 2 s' (UO ep (bk n L j)).length (XR (UO ep (bk n L j)))) (hn:s'.ownBlock=s.ownBlock) :
  KL (w3.setCell ⟨B,j,none⟩ s') b B n (ss.set j s') (UO ep L):=by
 have Fp:=h.not hs;have wT:w3.heap[B]?=w.heap[B]?:=hk.block B h.bks.lt Fp.2;have e1:bk n (UO ep L) j=UO ep (bk n L j):=Ab n L j _;refine h.upd hs ?_ ?_ (fun i t hij ht q hq=>?_) ?_ (fun i hi=>?_) (.inl hn) (fun x hx=>h.ok x (List.mem_filter.1 hx).1)
 ·exact Zbk
 ·exact ZaJ
 ·exact Zh3
 ·rw [e1];exact UC (w:=w3) ho (fun q hq=>Xg _ _ _ _ (fun e=>Fp.2 (by rw [<-hn,hq,e])))
 ·rw [show bk n (UO ep L) i=UO ep (bk n L i) from Ab n L i _];exact pH hj hi L
theorem jL {n j:Nat}{ep:Int}(h:ep%(n:Int)=(j:Int))(L:List QW) :KS ep (bk n L j)=KS ep L:=by
 unfold KS;rw [pF h]
theorem wE (b B n j g cp:Nat)(ss:List Zk)(L:List QW)(ep:Int)(w:Zc)(h:KL w b B n ss L)(hs:ss[j]?=some (.slice (some ⟨g,0,none⟩) (bk n L j).length cp))(h0:0<=ep)(h1:ep<=1099511627776)(hj:ep%(n:Int)=(j:Int))(hL:L.length<=100000) :
  Zv Zb 234 #[.pointer (some ⟨b,0,none⟩),.int .i64 ep] w (Nf w b B n j ss (.slice (some ⟨g,0,none⟩) (bk n L j).length cp) L ep):=by
 have Dc:j < n:=ug
 have UN:=h.row j _ hs;have hq:=Cv n L j;obtain ⟨x0,x1⟩:=h.cells hs;have Fp:=h.not hs;have qV:=(Lv UN).2.1;have qW:=(Lv UN).2.2.1;unfold X8 at qW;have HN:=Za (MM b n j n (some ⟨B,0,none⟩) ep w x0 h.pos h.top h0 h1 hj);have hgb:g≠b:=fun e=>Fp.1 (by rw [e]; rfl)
 have hgB:g≠B:=fun e=>Fp.2 (by rw [e]; rfl)
 have hBl:=h.bks.lt;have HH:=Za h;have HS:=Za hs;have HJ:=Za hj;obtain ⟨l,hl⟩:=ZT (bk n L j);rw [hl] at UN hq qV x1 HS ⊢;obtain ⟨q,rk⟩:=ZT (l.length);rw [rk] at UN hq qV x1 HS ⊢;have H0:Zl (jn w w g cp q 0 0 ep l (.slice none 0 0)):=Za ⟨rfl,by simpa [UO] using Lv UN,YX _ _ _ _,ZM _ _⟩;have HLL:=Za (Zn hl rk);have hj1: ¬(j:Int)< 0:=Zf;have hj2: ¬(n:Int)<=(j:Int):=Zf;have hj3:(j:Int)< (n:Int):=Zf;have hn4:n<=4096:=h.top;have X0:=Za x0;have X1:=Za x1;clear h hs UN Fp hj hl rk;obtain ⟨i0,MH,BK,Rt,Ro⟩:=Bg;go_enter func234,ntmps234;go_wp2_with fail;refine HN.o.mono ?_;rintro e w' ⟨rfl,rfl⟩;clear HN;go_wp2_with fail;go_loopw [7,8,35] (fun s7 s8 s35 wr=> ∃k r:Nat,r<=k/\k<=q/\s35= .int .i64 k/\s8= .slice (some ⟨g,0,none⟩) r cp/\Zl (jn w wr g cp q k r ep l s7)) (fun _ _ s35 _=>q -(intOf s35).toNat)
 case atStart=>exact ⟨0,0,by omega,by omega,rfl,rfl,H0⟩
 case round=>
  clear H0 x0 x1;obtain ⟨k,r,hrk,hk,rfl,rfl,HD⟩:=hrel
  by_cases XV:k < q
  ·obtain ⟨x,hx⟩ : ∃x,l[k]?=some x:=⟨_,Zg (by have:=HLL.o.2; omega)⟩;have hd:=HD.o;have HRX:Zl (wr.rangeAt g (k*2) (Br x)):=Za (hd.row.at (by
    rw [List.getElem?_append_right (by have:=hd.len; omega),hd.len,List.getElem?_drop,show r+(k - r)=k by omega];exact hx))
   have HE:Zl (Zu (wr.alloc (.cells (Jy x) 271)) wr.heap.size 271 (Jy x)):=Za (Zt _ _ _);have c0:(wr.alloc (.cells (Jy x) 271)).cell? ⟨wr.heap.size,0,none⟩=some (.int .i64 x.1):=HE.o.cell 0;have c1:(wr.alloc (.cells (Jy x) 271)).cell? ⟨wr.heap.size,1,none⟩=some (.int .i64 x.2):=HE.o.cell 1;have HX:=Za hx;have WH: ¬(k:Int)< 0:=Zf;have mC: ¬(q:Int)<=(k:Int):=Zf;have oM:(k:Int)< (q:Int):=Zf;have hgl:=hd.row.lt;have hws:=hd.kept.size;have bK:=qC ep (l.take k);have hgo2:(l.take k).length<=k:=by rw [Xr]; omega
   clear hd hx
   by_cases heq:x.1=ep
   ·have EX:(x.1==ep)=true:=by simpa using heq
    have HEQ:=Za heq;clear heq;go_wp2_with (first | (refine BG rfl 271 _ rfl g (k*2) rfl x _ HRX.o underlying271 rfl Ld ?_) | (refine UP wr.heap.size (Jy x) 271 (ZA wr _) Ld (St x) ?_; rw [Zr]) | (at_builtin; (refine XU _ rfl (.tmp 43) (.tmp 46) 24 rfl w.heap.size 3 i0 _ 1 8 underlying24 MH BK Rt Ro rfl Nat.one_pos u7 (KS ep (l.take k)).length _ rfl ((HD.o.o.alloc _).alloc _) (some ⟨wr.heap.size+1,0,none⟩) 1 1 [.int .i64 x.2] rfl rfl (fun _=>⟨_,rfl,by have:=cell_one_new (wr.alloc (.cells (Jy x) 271)) (.int .i64 x.2) 3; rwa [World.size_alloc] at this⟩) (by simp [Kn]) GU Zf Xl ?_; intro v1 w1 ho hg hv1)));have hZ:jn w w1 g cp q (k+1) r ep l v1:=by
     have hd:=HD.o;have et:=aZ HX.o;have k1:Zx (fun i=>u7.ownBlock=some i) wr w1:=((ZM _ wr).alloc _).alloc _ |>.trans (Xu hg (S:=fun i=>u7.ownBlock=some i) (fun i hi=>hi.symm)) (fun _ _ h=>h);have Ka: ∀i,u7.ownBlock=some i->w.heap.size<=i:=fun i hi=>(hd.o.lt i hi).1
     have hgw:g < w.heap.size:=by
      have:=HH.o.row j _ HS.o;exact (this.lt g rfl).2
     refine ⟨by rw [et,Me,if_pos HEQ.o]; exact hd.len,?_,?_,?_⟩
     ·rw [et,Me,if_pos HEQ.o];exact hd.row.same (k1.block g hd.row.lt (fun h=>by have:=Ka g h; omega))
     ·rw [et,Aq,if_pos HEQ.o];simpa using ho
     ·exact hd.kept.trans (k1.more (T:=fun i=>w.heap.size<=i) (fun i _ h=>Ka i h)) (fun i hi h=>by omega)
    have HZ:=Za hZ;clear ho hg hv1 hZ HD HRX HE c0 c1;go_wp2;go_roundw
    case rel=>exact ⟨k+1,r,by omega,by omega,by go_num,rfl,HZ⟩
    case measure=>exact VL
   ·have EX:(x.1==ep)=false:=by simpa using heq
    have HEQ:=Za heq;have HT:Zl (((wr.alloc (.cells (Jy x) 271)).alloc (.cells (Jy x) 271)).there g (r*2) 2/\jn w (((wr.alloc (.cells (Jy x) 271)).alloc (.cells (Jy x) 271)).setCells g (r*2) (Br x)) g cp q (k+1) (r+1) ep l u7):=Za (by
     have hd:=HD.o;have et:=aZ HX.o;have hB:Zp wr.heap.size wr ((wr.alloc (.cells (Jy x) 271)).alloc (.cells (Jy x) 271)):=((Zo _ _).alloc (Zh _) _).alloc ZE _;have Zar:=hd.row.below hB;have hrl:r < l.length:=by have:=HLL.o.2; omega
     have hgw:g < w.heap.size:=by
      have:=HH.o.row j _ HS.o;exact (this.lt g rfl).2
     rw [List.drop_eq_getElem_cons hrl] at Zar;obtain ⟨t1,t2⟩:=Zar.set hd.len x;refine ⟨t2,⟨by rw [et,Me,if_neg HEQ.o,ZF,hd.len]; rfl,?_,?_,?_⟩⟩
     ·rw [et,Me,if_neg HEQ.o];simpa using t1
     ·rw [et,Aq,if_neg HEQ.o];refine UC ((hd.o.alloc (.cells (Jy x) 271)).alloc (.cells (Jy x) 271)) (fun i hi=>?_);have Fo:=(hd.o.lt i hi).1;have kk:Zx (fun i=>i=g) ((wr.alloc (.cells (Jy x) 271)).alloc (.cells (Jy x) 271)) (((wr.alloc (.cells (Jy x) 271)).alloc (.cells (Jy x) 271)).setCells g (r*2) (Br x)):=Q6 _ _ _ (ZM _ _) (.inl rfl);exact kk.block i (by have:=(hd.o.lt i hi).2; simp; omega) (fun e=>by have e:i=g:=e; omega)
     ·exact Q6 _ _ _ ((hd.kept.alloc _).alloc _) (.inl rfl))
    have hq2:r+1<=cp:=Zf;clear heq;go_wp2_with (first | (refine BG rfl 271 _ rfl g (k*2) rfl x _ HRX.o underlying271 rfl Ld ?_) | (refine UP wr.heap.size (Jy x) 271 (ZA wr _) Ld (St x) ?_; rw [Zr]) | (refine BG rfl 271 _ rfl wr.heap.size 0 rfl x _ HE.o.range underlying271 rfl Ld ?_) | (refine WW rfl _ rfl x rfl ?_) | (at_builtin; refine Og rfl (.tmp 48) (.tmp 50) rfl g r cp (wr.alloc (.cells (Jy x) 271)).heap.size x rfl rfl (j4 (wr.alloc (.cells (Jy x) 271)) x 271) hq2 HT.o.1 ?_));go_roundw
    case rel=>exact ⟨k+1,r+1,by omega,by omega,by go_num,rfl,Za HT.o.2⟩
    case measure=>exact VL
  ·obtain rfl:k=q:=Zf;have hd:=HD.o;have e1:=HLL.o;have fH:Zx (fun i=>(Yj (some ⟨g,0,none⟩) k cp).ownBlock=some i) w wr:=hd.kept.more (fun i _ h=>by rw [h]; rfl);have y0:=hd.kept.cell (p:=⟨b,0,none⟩) (fun e=>hgb e.symm) X0.o;have y1:=hd.kept.cell (p:=⟨B,j,none⟩) (fun e=>hgB e.symm) X1.o;have z1:wr.frozen? ⟨B,j,none⟩=false:=by
    rw [hd.kept.frozen (p:=⟨B,j,none⟩) (fun e=>hgB e.symm) hBl];exact HH.o.bks.frozen j
   have HP:Zl (Nf w b B n j ss (.slice (some ⟨g,0,none⟩) k cp) L ep (.returned u7) (wr.setCell ⟨B,j,none⟩ (.slice (some ⟨g,0,none⟩) r cp))):=Za (by
    have ho:=hd.o;have hlen:=hd.len;have hrw:=hd.row;rw [List.take_of_length_le Zf] at ho hlen hrw;have ve:wr.ownsRow 0 271 2 (.slice (some ⟨g,0,none⟩) r cp) (UO ep (bk n L j)).length (XR (UO ep (bk n L j))):=by
     rw [e1.1,hlen];obtain ⟨r1,r2,r3,rest,r4,r5⟩:=hrw;refine RG.owns (g:=g) (w:=wr) (cap:=cp) ⟨hlen,by omega,r3,XR (l.drop r)++rest,?_,?_⟩ (Qu _)
     ·rw [ZF,Ui,r4,List.length_drop,e1.2];omega
     ·rw [<-List.append_assoc,<-Hx];exact r5
    refine ⟨u7,.slice (some ⟨g,0,none⟩) r cp,rfl,?_,aX HH.o HS.o HJ.o fH ve rfl,rfl,?_⟩
    ·rw [<-e1.1,jL HJ.o] at ho;refine UC ho (fun i hi=>Xg _ _ _ _ (fun e=>?_));have e:i=B:=e;have:=(ho.lt i hi).1;omega
    ·exact (fH.more (fun _ _ h=> .inr h)).setCell (.inl (.inl rfl)) _)
   clear hd e1 fH HD;go_wp2;go_ret;exact HP.o
end
section
open Go Go.RowKit
theorem gE {x:Int}(h:BH x) :BO [x] 1=x/\VU [x] 1=true:=by
 have e:XW [x] 1=x:=by simp [XW]
 exact ⟨by rw [BO,e,if_pos h.2],by rw [VU,e,decide_eq_true h.2]⟩
section
variable {w w':Zc} {h k:Nat} {lim s x:Int} {p:Nat × Int} {S:Nat->Prop} {a:Option Addr} {L:List Int} {cap:Nat}
theorem aD (i:Int)(hu:Ot w S a L)(hL:L.length<=9223372036854775807)(hA:Mi L) :
  Z3 239 #[.slice a L.length cap,.int .i64 i] w (.int .u64 (Ks L i)):=by
 have hb:Zp w.heap.size w (w.alloc (.cells #[.int .i64 i] 3)):=(Zo _ _).alloc (Zh _) _;have HW:=Za (dN (I:= [i]) (ic:=1) (cap:=cap) (S2:=fun _=>False) (hu.below hb) hL hA (Qf.of_blk (L:= [i]) (Zt w 3 #[.int .i64 i]) (fun h=>h)) ZE);have HB:=Za hb;have HO:=Za (gE (Od hA i));clear hb hu hL hA;go_enter func239,ntmps239;go_wp2_with fail;refine HW.o.mono ?_;rintro e w' ⟨rfl,b1⟩;rw [List.map_cons,List.map_nil,List.length_singleton,HO.o.1,HO.o.2];have B1:=Za b1;clear b1 HW;go_wp2;go_ret;exact ⟨rfl,HB.o.trans (B1.o.mono HB.o.size)⟩
theorem xS (bb wb:Nat)(i:Int)(w:Zc)(hB:Zu w bb 282 #[Np h])(hW:Zu w wb 121 #[.slice a L.length cap])(hu:Ot w S a L)(hL:L.length<=9223372036854775807)(hA:Mi L)
  (hb:RF w h lim p) (hs:BH p.2) (hl:BH lim) (hk:p.1<=1000000000) :
  Zv Zb 238 #[.int .i64 i,.pointer (some ⟨bb,0,none⟩),.pointer (some ⟨wb,0,none⟩)] w fun e w'=>
   e= .returned (.bool (((Vf lim p (Ks L i)).1:Int)==1))/\RF w' h lim (Vf lim p (Ks L i))/\Zx (fun i=>i=h+1\/i=h+2) w w':=by
 have HWt:=Za (fun w' (hb':Zp w.heap.size w w')=>aD (cap:=cap) i (hu.below hb') hL hA);have HBn:=Za (fun w' (h':RF w' h lim p)=>wi w' h' hs (Od hA i) hl hk);have vq:=Za (Zn hB (Zn hW hb));have c1:w.cell? ⟨bb,0,none⟩=some (Np h):=hB.cell 0;have c2:=QS hW 0;have HC:=Za (Zn c1 c2);clear hB hW hb hu hA c1 c2;go_enter func238,ntmps238;go_wp2;refine Mz (fun w'=>w'.cell? ⟨bb,0,none⟩=some (Np h)/\w'.cell? ⟨wb,0,none⟩=some (.slice a L.length cap)) 4 1 [0,1,2] HC.o ?_;refine JL ?_;refine Pw ?_;refine Vk 282 ⟨bb,0,none⟩ (Np h) (fun w h=>h.1) ?_;refine Vk 121 ⟨wb,0,none⟩ (.slice a L.length cap) (fun w h=>h.2) ?_;refine X5 ?_;refine Gz ?_;refine XK ?_;refine Jg (i:=3) ?_;refine JC #[.slice a L.length cap,.int .i64 i] call239 ((HWt.o w.drew (Below.drew (Zo _ _))).mono ?_);rintro e w1 ⟨rfl,b1⟩;have B1:Zl (Zp w.heap.size w w1):=Za ((Below.drew (Zo _ _)).trans b1);clear b1;have K1:Zl (RF w1 h lim p):=Za (vq.o.2.2.kept (S:=fun _=>False) (YR B1.o) (fun _ _ _ h=>h));refine ⟨_,rfl,⟨(vq.o.1.below B1.o vq.o.1.lt).cell 0,(vq.o.2.1.below B1.o vq.o.2.1.lt).cell 0⟩,?_⟩;refine GO ?_;refine ⟨by kernel_rfl,?_⟩;refine Mh ?_;have H4:=Za (HBn.o w1 K1.o);have B2:Zl (Zx (fun i=>i=h+1\/i=h+2) w w1):=Za (YR B1.o);clear HBn HWt vq HC K1 B1;generalize hq:Vf lim p (Ks L i)=q at H4;have HQ:=Za hq;clear hq;unfold Np;go_wp2_with fail;refine H4.o.mono ?_;rintro e w' ⟨rfl,b4,k4⟩;have B4:=Za (Zn b4 k4);clear b4 k4 H4;go_wp2;refine Gy ?_;go_wp2;go_ret;rw [HQ.o];exact ⟨rfl,B4.o.1,B2.o.trans B4.o.2 (fun _ _ h=>h)⟩
end
end
section
open Go Go.RowKit Go.Deep
theorem p5 (b B n j:Nat)(ss:List Zk)(L:List QW)(ep:Int)(w:Zc)(h:KL w b B n ss L)(hs:ss[j]?=some (.slice none 0 0))(h0:0<=ep)(h1:ep<=1099511627776)(hj:ep%(n:Int)=(j:Int))(hl:bk n L j=[]) :
  Zv Zb 234 #[.pointer (some ⟨b,0,none⟩),.int .i64 ep] w (Nf w b B n j ss (.slice none 0 0) L ep):=by
 have Dc:j < n:=ug
 obtain ⟨x0,x1⟩:=h.cells hs;have HN:=Za (MM b n j n (some ⟨B,0,none⟩) ep w x0 h.pos h.top h0 h1 hj);have hj1: ¬(j:Int)< 0:=Zf;have hj2: ¬(n:Int)<=(j:Int):=Zf;have hj3:(j:Int)< (n:Int):=Zf;have hn4:n<=4096:=h.top;have z1:w.frozen? ⟨B,j,none⟩=false:=h.bks.frozen j;have HP:Zl (Nf w b B n j ss (.slice none 0 0) L ep (.returned (.slice none 0 0)) (w.setCell ⟨B,j,none⟩ (.slice none 0 0))):=Za (by
  have hg:KS ep L=[]:=by rw [<-jL hj,hl]; rfl
  refine ⟨_,.slice none 0 0,rfl,?_,aX h hs hj (ZM _ _) ?_ rfl,rfl,(ZM _ _).setCell (.inl (.inl rfl)) _⟩
  ·rw [hg]; exact YX _ _ _ _
  ·rw [hl]; exact YX _ _ _ _)
 clear h hs hj hl;go_enter func234,ntmps234;go_wp2_with fail;refine HN.o.mono ?_;rintro e w' ⟨rfl,rfl⟩;clear HN;go_wp2_with fail;go_loopw [7,8,35] (fun s7 s8 s35 wr=>s7= .slice none 0 0/\s8= .slice none 0 0/\s35= .int .i64 0/\w=wr) (fun _ _ _ _=>0)
 case atStart=>exact ⟨rfl,rfl,rfl,rfl⟩
 case round=>
  obtain ⟨rfl,rfl,rfl,rfl⟩:=hrel;go_wp2;go_ret;exact HP.o
theorem wC (b n:Nat)(S:Nat->Prop)(L:List QW)(ep:Int)(w:Zc)(h:Gx w b S n L)(h0:0<=ep)(h1:ep<=1099511627776)(hL:L.length<=100000) :
  Zv Zb 234 #[.pointer (some ⟨b,0,none⟩),.int .i64 ep] w fun e w'=> ∃v S',e= .returned v/\w'.ownsRow w.heap.size 3 1 v (KS ep L).length ((KS ep L).map (ZI .i64))/\Gx w' b S' n (UO ep L)/\(∀i,S' i->S i)/\Zx S w w':=by
 obtain ⟨B,ss,hp,hS⟩:=h;obtain ⟨j,hj⟩ : ∃j:Nat,ep%(n:Int)=(j:Int):=⟨(ep%(n:Int)).toNat,by have:=Int.emod_nonneg ep (b:=(n:Int)) jg; omega⟩;have Dc:j < n:=Za7
 obtain ⟨s,hs⟩:=hp.get Dc;have key:Zv Zb 234 #[.pointer (some ⟨b,0,none⟩),.int .i64 ep] w (Nf w b B n j ss s L ep):=by
  have hr:=hp.row j s hs
  rcases hr.2 with ⟨h1,h2⟩ | ⟨g,cp,cur,h1,_⟩
  ·subst h1;exact p5 b B n j ss L ep w hp hs h0 ‹_› hj (List.eq_nil_of_length_eq_zero h2)
  ·subst h1;exact wE b B n j g cp ss L ep w hp hs h0 ‹_› hj hL
 refine key.mono ?_;rintro e w' ⟨v,s',he,ho,h2,h3,h4⟩;refine ⟨v,fun i=>i=b\/i=B\/ ∃s:Zk,s ∈ ss.set j s'/\s.ownBlock=some i,he,ho,⟨B,_,h2,fun _=>Iff.rfl⟩,?_,h4.more (fun i _ hi=>?_)⟩
 ·rintro i (rfl | rfl | ⟨t,ht,hq⟩)
  ·exact (hS _).2 (.inl rfl)
  ·exact (hS _).2 (.inr (.inl rfl))
  ·rcases List.mem_or_eq_of_mem_set ht with ht | rfl
   ·exact (hS i).2 (.inr (.inr ⟨t,ht,hq⟩))
   ·exact (hS i).2 (.inr (.inr ⟨s,Zy hs,by rw [<-h3]; exact hq⟩))
 ·exact Zis
end
section
open Go Go.ChangeShapes Go.WideShapes Go.RowKit Go.Deep
structure Rc where
 kd:Int
 cd:Int
 ix:Int
 bl:Int
 ep:Int
 dl:Int
 aa:Option Addr
 an:Nat
 ac:Nat
 pa:Option Addr
 pn:Nat
 pc:Nat
 vs:Int
deriving Inhabited
def Rc.row (v:Rc) :List Zk:= [.int .i64 v.kd,.int .i64 v.cd,.int .i64 v.ix,.int .i64 v.bl,.int .i64 v.ep,.int .i64 v.dl,.slice v.aa v.an v.ac,.slice v.pa v.pn v.pc,.int .i64 v.vs]
def Z9 (v:Rc) :Array Zk:=v.row.toArray
def Dd:Rc:=⟨0,0,0,0,0,0,none,0,0,none,0,0,0⟩
theorem Rc.row_len (v:Rc) :v.row.length=9:=rfl
theorem Rc.row_one (v:Rc) : ∀u ∈ v.row,u.oneCell'=true:=by
 intro u hu;simp only [Rc.row,ZU,Yg,or_false] at hu
 rcases hu with rfl | rfl | rfl | rfl | rfl | rfl | rfl | rfl | rfl <;> rfl
theorem Ke (v:Rc) :(Z9 v).all (·.oneCell')=true:=by
 refine ZK.2 (fun u hu=>Rc.row_one v u (by simpa [Z9] using hu))
theorem Vi:(Tryz.prog.info? 53).map (·.size)=some 9:=ZC
section
variable {P:Program} {ops:Array Oper} {rest:List Oper} {op:Oper} {a:Act} {w:Zc} {Q:Exit->Act->Zc->Prop}
theorem F7 (hg:op.guard=none)(t:TypeId)(parts:Array (Nat × YN))(ho:op.op= .build t parts)(v:Rc)
  (hf:P.built t (parts.map fun (i,x)=>(i,a.eval x)).toList=some (Z9 v)) (h:YQ P ops Q rest (a.put op.dst (.agg (Z9 v))) w) :YQ P ops Q (op::rest) a w:=
 wpList_build hg t parts ho (by rw [hf]; rfl) IX
end
end
section
open Go Go.RowKit Go.Deep
def nA (k c b e:Int) :Rc:=⟨k,c,-1,b,e,-1,none,0,0,none,0,0,0⟩
def R8 (k i d b e:Int) :Rc:=⟨k,0,i,b,e,d,none,0,0,none,0,0,0⟩
theorem ij (o:Oq)(c b e:Int)(w:Zc) :Zv Zb 37 #[.agg (ZX o),.int .i64 c,.int .i64 b,.int .i64 e] w fun e' w'=>e'= .returned (.agg (Z9 (nA o.kd c b e)))/\Zp w.heap.size w w':=by
 have KO:Zl (Zu ((w.alloc (.cells (ZX o) 49)).alloc (.cells (Z9 Dd) 53)) w.heap.size 49 (ZX o)):=Za ((Zt w _ _).alloc _);have KZ:Zl (Zu ((w.alloc (.cells (ZX o) 49)).alloc (.cells (Z9 Dd) 53)) (w.heap.size+1) 53 (Z9 Dd)):=Za (by
  have h:=Zt (w.alloc (.cells (ZX o) 49)) 53 (Z9 Dd);rwa [show (w.alloc (.cells (ZX o) 49)).heap.size=w.heap.size+1 by simp] at h)
 have B0:Zl (Zp w.heap.size w ((w.alloc (.cells (ZX o) 49)).alloc (.cells (Z9 Dd) 53))):=Za (((Zo _ _).alloc (Zh _) _).alloc ZE _);go_enter func37,ntmps37;go_upto_region 1 with (fail);generalize hW:(w.alloc (.cells (ZX o) 49)).alloc (.cells _ 53)=W;have eW:(w.alloc (.cells (ZX o) 49)).alloc (.cells (Z9 Dd) 53)=W:=hW;rw [eW] at KO KZ B0;clear hW eW;have k0:=QS KO.o 0;go_wp2_with (first | (refine F7 rfl 53 _ rfl (nA o.kd c b e) ZC ?_) | (refine UP (w.heap.size+1) (Z9 (nA o.kd c b e)) 53 KZ.o Vi (Ke _) ?_));exact ZhZ
theorem Wz (o:Oq)(i d b e:Int)(w:Zc) :Zv Zb 172 #[.agg (ZX o),.int .i64 i,.int .i64 d,.int .i64 b,.int .i64 e] w fun e' w'=>e'= .returned (.agg (Z9 (R8 o.kd i d b e)))/\Zp w.heap.size w w':=by
 have KO:Zl (Zu ((w.alloc (.cells (ZX o) 49)).alloc (.cells (Z9 Dd) 53)) w.heap.size 49 (ZX o)):=Za ((Zt w _ _).alloc _);have KZ:Zl (Zu ((w.alloc (.cells (ZX o) 49)).alloc (.cells (Z9 Dd) 53)) (w.heap.size+1) 53 (Z9 Dd)):=Za (by
  have h:=Zt (w.alloc (.cells (ZX o) 49)) 53 (Z9 Dd);rwa [show (w.alloc (.cells (ZX o) 49)).heap.size=w.heap.size+1 by simp] at h)
 have B0:Zl (Zp w.heap.size w ((w.alloc (.cells (ZX o) 49)).alloc (.cells (Z9 Dd) 53))):=Za (((Zo _ _).alloc (Zh _) _).alloc ZE _);go_enter func172,ntmps172;go_upto_region 1 with (fail);generalize hW:(w.alloc (.cells (ZX o) 49)).alloc (.cells _ 53)=W;have eW:(w.alloc (.cells (ZX o) 49)).alloc (.cells (Z9 Dd) 53)=W:=hW;rw [eW] at KO KZ B0;clear hW eW;have k0:=QS KO.o 0;go_wp2_with (first | (refine F7 rfl 53 _ rfl (R8 o.kd i d b e) ZC ?_) | (refine UP (w.heap.size+1) (Z9 (R8 o.kd i d b e)) 53 KZ.o Vi (Ke _) ?_));exact ZhZ
end
section
open Go Go.RowKit
section
variable {ops:Array Oper} {rest:List Oper} {o:Oper} {a:Act} {w:Zc} {Q:Exit->Act->Zc->Prop}
theorem Zef (g:Nat){r:Rc}{old:Array Zk}{ty:TypeId}{x y:YN}(hg:w.heap[g]?=some (.cells old 53 (0,0)))(h:YQ Zb ops Q rest (a.put o.dst undef) (w.setRow g (Z9 r)))
  (BJ:o.guard=none:=by exact rfl) (ho:o.op= .store ty x y:=by exact rfl) (hx:a.eval x= .pointer (some ⟨g,0,none⟩):=by exact rfl) (hy:a.eval y= .agg (Z9 r):=by exact rfl)
  (hi:(Tryz.prog.info? ty).map (·.size)=some 9:=by exact Vi) (hold:old.size=9:=by exact rfl) :YQ Zb ops Q (o::rest) a w:=YH BJ ty x y ho g (Z9 r) hx hy _ old hg hi hold (Ke r) h
end
end
section
open Go Go.RowKit Go.Deep
theorem M0 (w:Zc)(A:Obj)(cs:Array Zk)(t:TypeId) :Zu ((w.alloc A).alloc (.cells cs t)) (w.heap.size+1) t cs:=uo
theorem Pb:(#[.int .i64 0,.int .u64 0] :Array Zk)=ZB Mm:=rfl
theorem OH (w:Zc)(A B:Obj) :Zp w.heap.size w ((w.alloc A).alloc B):=((Zo _ _).alloc (Zh _) _).alloc ZE _
theorem O6 (r:Rq)(x:Int)(w:Zc) :
  Z3 231 #[.agg (ZB r),.int .u64 x] w (.agg (ZB ⟨r.ix,x⟩)):=by
 have HB:Zl (Zu ((w.alloc (.cells (ZB r) 119)).alloc (.cells (ZB Mm) 119)) w.heap.size 119 (ZB r)/\Zu ((w.alloc (.cells (ZB r) 119)).alloc (.cells (ZB Mm) 119)) (w.heap.size+1) 119 (ZB Mm)):=Za ⟨(Zt w _ _).alloc _,M0 w _ _ _⟩;have HL:Zl (Zp w.heap.size w ((w.alloc (.cells (ZB r) 119)).alloc (.cells (ZB Mm) 119))):=Za (OH _ _ _);go_enter func231,ntmps231;go_upto_region 1 with (fail);simp only [Pb];generalize (w.alloc (.cells (ZB r) 119)).alloc (.cells (ZB Mm) 119)=W at*;have x0:=QS HB.o.1 0;go_wp2_with (first | (refine RB rfl 119 _ rfl ⟨r.ix,x⟩ ZC ?_) | (refine UP (w.heap.size+1) (ZB ⟨r.ix,x⟩) 119 HB.o.2 Jb (Kf _) ?_));exact Yd (v:= .agg (ZB ⟨r.ix,x⟩)) (YC (fn:=Tryz.f231) rfl _ _ (w.heap.size+1) 119 (ZB ⟨r.ix,x⟩) (0,0) _ rfl (YA _ _ _ _ _ _ HB.o.2) underlying119 rfl Jb) rfl ⟨rfl,Xt HL.o Zf _⟩
theorem Ek (r:Rq)(n:Nat)(w:Zc) :
  Z3 192 #[.agg (ZB r),.int .i64 n] w (.bool (VP r n)):=by
 have HB:Zl (Zu (w.alloc (.cells (ZB r) 119)) w.heap.size 119 (ZB r)/\Zp w.heap.size w (w.alloc (.cells (ZB r) 119))):=Za ⟨Zt w _ _,(Zo _ _).alloc (Zh _) _⟩;have hx:Zl ((decide (0<=r.ix)&&decide (r.ix < (n:Int)))=VP r n):=Za (by rw [VP,Bool.decide_and])
 by_cases h1:0<=r.ix
 ·have d1:decide (0<=r.ix)=true:=decide_eq_true h1;obtain ⟨b,hb⟩:=ZT (decide (r.ix < (n:Int)));have E:Zl (VP r n=b):=Za (by rw [<-hx.o,d1,hb,Bool.true_and]);exact ZhX
 ·have d1:decide (0<=r.ix)=false:=decide_eq_false h1;have E:Zl (VP r n=false):=Za (by rw [<-hx.o,d1,Bool.false_and]);exact ZhX
theorem Ak (r:Rq)(w:Zc) :
  Z3 193 #[.agg (ZB r)] w (.bool (decide (r.am=0))):=by
 have HK:Zl (Vp w.heap.size w.heap.size 119 (ZB r) w (w.alloc (.cells (ZB r) 119))):=Za (Vp.new (Zo _ _) (Zh _));have E:Zl (decide (r=(⟨r.ix,0⟩ :Rq))=decide (r.am=0)):=Za (by
  obtain ⟨i,a⟩:=r;simp)
 obtain ⟨b,hb⟩ : ∃b,decide (r.am=0)=b:=⟨_,rfl⟩;rw [hb] at E ⊢;clear hb;go_enter func193,ntmps193;go_upto_region 1 with (fail);generalize w.alloc (.cells (ZB r) 119)=W at*;refine J2 (Vp w.heap.size w.heap.size 119 (ZB r) w) ZC ZC HK.o.drew ?_;refine QP 119 _ w.heap.size 119 (ZB r) _ rfl rfl rfl (fun w' h=>h.1) underlying119 rfl Jb ?_;refine X5 ?_;refine QP 119 _ w.heap.size 119 (ZB r) _ rfl rfl rfl (fun w' h=>h.1) underlying119 rfl Jb ?_;refine X5 ?_;refine O7 (.agg (ZB ⟨r.ix,0⟩)) #[.agg (ZB r),.int .u64 0] ZC ZC call231 (fun w' h=>h.call (O6 r 0 w')) ?_;refine X5 ?_;refine ZdO r ⟨r.ix,0⟩ b rfl rfl rfl E.o ?_;refine X5 ?_;refine Gz ?_;refine XK ?_;intro w1 k1;go_wp2;go_ret;exact ⟨rfl,k1.2.1⟩
theorem CA (S:Nat->Prop)(a:Option Addr)(cp:Nat)(l:List ZN)(r:Rq)(w:Zc)(h:DH w S a l) :
  Z3 134 #[.slice a l.length cp,.agg (ZB r)] w (.int .i64 (OJ l r)):=by
 have HK:Zl (Vp w.heap.size w.heap.size 119 (ZB r) w (w.alloc (.cells (ZB r) 119))):=Za (Vp.new (Zo _ _) (Zh _));have HW:=Za (fun w=>Ek r l.length w);have HE:=Za (fun w=>Ak r w);have HL:=Za h;obtain ⟨n,hn⟩:=ZT (l.length);rw [hn] at HW ⊢;clear h
 cases hb:VP r n with
 | false=>
  have E:Zl (OJ l r=7):=Za (by rw [OJ,hn,hb]; rfl);rw [hb] at HW;clear hb hn HL;go_enter func134,ntmps134;go_upto_region 1 with (fail);generalize w.alloc (.cells (ZB r) 119)=W at*;go_wp2_with (first | (refine Kz 119 w.heap.size HK.o.1 underlying119 Jb ?_));refine (HK.o.call (HW.o _)).mono ?_;rintro e w1 ⟨rfl,k1⟩;have K1:=Za k1;clear k1 HK;go_wp2;go_ret;exact ⟨congrArg (fun x=>Ending.returned (.int .i64 x)) E.o.symm,K1.o.2.1⟩
 | true=>
  rw [hb] at HW
  by_cases h0:r.am=0
  ·have E:Zl (OJ l r=3):=Za (by rw [OJ,hn,hb,if_neg ZE,if_pos h0]);rw [decide_eq_true h0] at HE;clear hb hn HL h0;go_enter func134,ntmps134;go_upto_region 1 with (fail);generalize w.alloc (.cells (ZB r) 119)=W at*;go_wp2_with (first | (refine Kz 119 w.heap.size HK.o.1 underlying119 Jb ?_));refine (HK.o.call (HW.o _)).mono ?_;rintro e w1 ⟨rfl,k1⟩;have K1:=Za k1;clear k1 HK;go_wp2_with (first | (refine Kz 119 w.heap.size K1.o.1 underlying119 Jb ?_));refine (K1.o.call (HE.o _)).mono ?_;rintro e w2 ⟨rfl,k2⟩;have K2:=Za k2;clear k2 K1;exact ZbM
  ·rw [decide_eq_false h0] at HE;obtain ⟨i,v,hi,hv⟩:=Ax (l:=l) (r:=r) (by rw [hn]; exact hb);have Fo:=(Zj.1 hv).1;have HV:=Za hv;have HX:=Za hi;have k1: ¬(i:Int)< 0:=Zf;have k2: ¬(n:Int)<=(i:Int):=Zf;have k3:(i:Int)< (n:Int):=Zf;have E0:OJ l r=if v.st≠2 then 8 else 0:=by rw [OJ,hn,hb,if_neg ZE,if_neg h0,hi,Int.toNat_natCast,K8 hv]
   by_cases hs:v.st=2
   ·have E:Zl (OJ l r=0):=Za (by rw [E0,if_neg (by simp [hs])]);have ds:(v.st != 2)=false:=by simp [hs]
    exact Zhu
   ·have E:Zl (OJ l r=8):=Za (by rw [E0,if_pos FO]);have ds:(v.st != 2)=true:=FO;exact Zhu
end
section
open Go Go.RowKit Go.Deep
theorem qJ (a b:Int)(w:Zc)(h:b<=a)(h0:0<=b)(h1:a<=18446744073709551615) :YV 299 #[.int .u64 a,.int .u64 b] w (.tuple #[.int .u64 (a - b),.bool true]):=by
 have hw:IntKind.u64.wrap (a - b)=a - b:=by simp [IntKind.wrap,V9,IntKind.bits]; omega
 have d:decide (a < b)=false:=decide_eq_false Zf;clear h h0 h1;exact Zbl
theorem wQ (a b:Int)(w:Zc)(h:a < b) :YV 299 #[.int .u64 a,.int .u64 b] w (.tuple #[.int .u64 0,.bool false]):=by
 have d:decide (a < b)=true:=decide_eq_true h;clear h;exact Zbl
def VC (w W:Zc)(v:ZN)(c:Nat->Int) :Prop:=Zu W w.heap.size 68 (Zd v)/\Zu W (w.heap.size+1) 30 (Zi c)/\Zp w.heap.size w W
theorem VC.new (w:Zc)(v:ZN)(c:Nat->Int) :VC w ((w.alloc (.cells (Zd v) 68)).alloc (.cells (Zi c) 30)) v c:=⟨(Zt w _ _).alloc _,M0 w _ _ _,OH _ _ _⟩
theorem VC.next {w W W':Zc}{v:ZN}{c:Nat->Int}(h:VC w W v c)(hb:Zp W.heap.size W W') :VC w W' v c:=⟨h.1.below hb h.1.lt,h.2.1.below hb h.2.1.lt,h.2.2.trans (hb.mono h.2.2.size)⟩
theorem VC.cells {w W:Zc}{v:ZN}{c:Nat->Int}(h:VC w W v c) :W.cell? ⟨w.heap.size,0,none⟩=some (.int .u64 v.bal)/\W.cell? ⟨w.heap.size,1,none⟩=some (.int .i64 v.st)/\W.cell? ⟨w.heap.size,2,none⟩=some (.bool v.sl)/\W.cell? ⟨w.heap.size+1,5,none⟩=some (.int .u64 (c 5)):=⟨h.1.cell 0,h.1.cell 1,h.1.cell 2,h.2.1.cell 5⟩
theorem lC (v:ZN)(c:Nat->Int)(w:Zc)(hv:Yh v)(hm:0<=c 5) :
  Z3 292 #[.agg (Zd v),.agg (Zi c)] w (.int .u64 (Gq v (c 5))):=by
 have T:=Za (VC.new w v c)
 by_cases hs:v.st=2
 ·have ds:(v.st != 2)=false:=by simp [hs]
  cases hl:v.sl with
  | true=>
   have E:Zl (Gq v (c 5)=0):=Za (by rw [Gq,if_neg FO,if_pos hl]);have HL:=Za hl;clear hs hl hv hm;go_enter func292,ntmps292;go_upto_region 1 with (fail);generalize (w.alloc (.cells (Zd v) 68)).alloc (.cells (Zi c) 30)=W at*;obtain ⟨x0,x1,x2,x3⟩:=T.o.cells;rw [HL.o] at x2;exact ZaV
  | false=>
   have HL:=Za hl
   by_cases hb:c 5<=v.bal
   ·have E:Zl (Gq v (c 5)=v.bal - c 5):=Za (by rw [Gq,if_neg FO,if_neg (by simp [hl])]; split <;> omega);have HS:=Za (fun w=>qJ v.bal (c 5) w hb hm hv.bal.2);exact ZhG
   ·have E:Zl (Gq v (c 5)=0):=Za (by rw [Gq,if_neg FO,if_neg (by simp [hl]),if_neg Zf]);have HS:=Za (fun w=>wQ v.bal (c 5) w Zf);exact ZhG
 ·have ds:(v.st != 2)=true:=FO;have E:Zl (Gq v (c 5)=0):=Za (by rw [Gq,if_pos FO]);clear hs hv hm;go_enter func292,ntmps292;go_upto_region 1 with (fail);generalize (w.alloc (.cells (Zd v) 68)).alloc (.cells (Zi c) 30)=W at*;obtain ⟨x0,x1,x2,x3⟩:=T.o.cells;exact ZaV
theorem iQ:(#[.int .u64 0,.int .i64 0,.bool false,.int .i64 0,.int .i64 0,.int .i64 0,.int .i64 0] :Array Zk)=Zd ZS:=rfl
theorem Cp (v:ZN)(x:Int)(c:Nat->Int)(w:Zc)(hv:Yh v)(hm:0<=c 5)(hx:0<=x) :
  Z3 276 #[.agg (Zd v),.int .u64 x,.agg (Zi c)] w (.tuple #[.agg (Zd (F9 v x (c 5))),.int .u64 (Bq v x (c 5))]):=by
 have T:Zl (VC w (((w.alloc (.cells (Zd v) 68)).alloc (.cells (Zi c) 30)).alloc (.cells (Zd ZS) 68)) v c/\
  Zu (((w.alloc (.cells (Zd v) 68)).alloc (.cells (Zi c) 30)).alloc (.cells (Zd ZS) 68)) (w.heap.size+2) 68 (Zd ZS)):=Za ⟨(VC.new w v c).next ((Zo _ _).alloc (Zh _) _),by
   have:=Zt ((w.alloc (.cells (Zd v) 68)).alloc (.cells (Zi c) 30)) 68 (Zd ZS);simpa using this⟩
 have HA:=Za (fun w=>lC v c w hv hm);have hb:=DW (x:=x) hv hm hx;obtain ⟨p,hp⟩:=ZT (Bq v x (c 5));obtain ⟨A,hA⟩:=ZT (Gq v (c 5));have SU:(if A < x then A else x)=p:=by rw [<-hp,Bq,hA]
 have hmin2:min x A=p:=by rw [<-SU]; split <;> omega
 obtain ⟨t,ht⟩:=ZT (v.bal - p);have hw:IntKind.u64.wrap (v.bal - p)=t:=by
  have:=hv.bal;rw [hp] at hb;rw [ht];have h3:0<=t:=Zf;have h4:t<=18446744073709551615:=Zf;simp [IntKind.wrap,V9,IntKind.bits]; omega
 have E:Zl (Zd (F9 v x (c 5))=(Zd v).setIfInBounds 0 (.int .u64 t)):=Za (by rw [<-ht,<-hp]; rfl);rw [hA] at HA;rw [hp];clear hv hm hx hb hp hA ht;go_enter func276,ntmps276;go_upto_region 1 with (fail);simp only [iQ];generalize ((w.alloc (.cells (Zd v) 68)).alloc (.cells (Zi c) 30)).alloc (.cells (Zd ZS) 68)=W at*;go_wp2_with (first | (refine Kz 68 w.heap.size T.o.1.1 underlying68 Yb ?_) | (refine Kz 30 (w.heap.size+1) T.o.1.2.1 underlying30 X7 ?_));refine (HA.o _).mono ?_;rintro e w1 ⟨rfl,b1⟩;have T1:Zl (VC w w1 v c/\Zu w1 (w.heap.size+2) 68 (Zd ZS)):=Za ⟨T.o.1.next b1,T.o.2.below b1 T.o.2.lt⟩;clear T b1 HA;have f0:=T1.o.1.1.frozen 0;have x0:=T1.o.1.cells.1;go_upto_region 3 with (fail);have Z:Zl (Zu (w1.setCell ⟨w.heap.size,0,none⟩ (.int .u64 t)) w.heap.size 68 (Zd (F9 v x (c 5)))/\Zu (w1.setCell ⟨w.heap.size,0,none⟩ (.int .u64 t)) (w.heap.size+2) 68 (Zd ZS)/\Zp w.heap.size w (w1.setCell ⟨w.heap.size,0,none⟩ (.int .u64 t))):=by
  obtain ⟨⟨h1,h2,h3⟩,h4⟩:=T1.o;refine Za ⟨?_,h4.far ZE _,h3.setCell ZE _⟩;rw [E.o];exact h1.set_ 0 _
 generalize w1.setCell ⟨w.heap.size,0,none⟩ (.int .u64 t)=w2 at*;clear T1 x0 f0 E hw SU hmin2;go_wp2_with (first | (refine Kz 68 w.heap.size Z.o.1 underlying68 Yb ?_) | (refine UP (w.heap.size+2) (Zd (F9 v x (c 5))) 68 Z.o.2.1 Yb (Ys _) ?_));exact Yd (v:= .tuple #[.agg (Zd (F9 v x (c 5))),.int .u64 p]) (XS (fn:=Tryz.f276) rfl _ _ (w.heap.size+2) 68 (Zd (F9 v x (c 5))) (0,0) _ rfl (YA _ _ _ _ _ _ Z.o.2.1) underlying68 rfl Yb) rfl ⟨rfl,Xt Z.o.2.2 Zf _⟩
end
section
open Go Go.RowKit Go.Deep
theorem WO (w:Zc) :(Instr.alloc 68 true (.tuple #[])).run Zb w= .ok (.pointer (some ⟨w.heap.size,0,none⟩)) (w.alloc (.cells (Zd ZS) 68)):=by
 obtain ⟨i,hi,hz,hs,MG⟩:=IL;simp [Instr.alloc,sizeOf,zeroValue,typeInfo,hi,hz,hs,newRow,go_sem,Value.cells]
theorem Kc {o:Oper}{a:Act}{w:Zc}{K:Act->Zc->Prop}{Q:Exit->Act->Zc->Prop}(ho:o.op= .alloc 68)
  (h:K (a.put o.dst (.pointer (some ⟨w.heap.size,0,none⟩))) (w.alloc (.cells (Zd ZS) 68))) :o.wp Zb a w K Q:=by
 unfold Oper.wp execOp;simp only [ho,Sem.run_bind,WO w,Result.andThen_ok,Sem.run_pure];exact h
def RC (w W:Zc)(r:Rq)(c:Nat->Int) :Prop:=Zu W w.heap.size 119 (ZB r)/\Zu W (w.heap.size+1) 30 (Zi c)/\Zu W (w.heap.size+2) 119 (ZB Mm)/\Zp w.heap.size w W
theorem RC.new (w:Zc)(r:Rq)(c:Nat->Int) :RC w (((w.alloc (.cells (ZB r) 119)).alloc (.cells (Zi c) 30)).alloc (.cells (ZB Mm) 119)) r c:=
 ⟨((Zt w _ _).alloc _).alloc _,(M0 w _ _ _).alloc _,by
  have:=Zt ((w.alloc (.cells (ZB r) 119)).alloc (.cells (Zi c) 30)) 119 (ZB Mm);simpa using this,(OH _ _ _).alloc (by simp <;> omega) _⟩
theorem RC.next {w W W':Zc}{r:Rq}{c:Nat->Int}(h:RC w W r c)(hb:Zp W.heap.size W W') :RC w W' r c:=⟨h.1.below hb h.1.lt,h.2.1.below hb h.2.1.lt,h.2.2.1.below hb h.2.2.1.lt,h.2.2.2.trans (hb.mono h.2.2.2.size)⟩
theorem nm (r:Rq)(a:Option Addr)(n cp:Nat)(c:Nat->Int)(w:Zc)(h:VP r n=false) :
  Z3 246 #[.agg (ZB r),.slice a n cp,.agg (Zi c)] w (.agg (ZB ⟨r.ix,0⟩)):=by
 have T:=Za (RC.new w r c);have HW:=Za (fun w=>Ek r n w);have HF:=Za (fun w=>O6 r 0 w);rw [h] at HW;clear h;go_enter func246,ntmps246;go_upto_region 1 with (fail);simp only [Pb];generalize ((w.alloc (.cells (ZB r) 119)).alloc (.cells (Zi c) 30)).alloc (.cells (ZB Mm) 119)=W at*;go_wp2_with (first | (refine Kz 119 w.heap.size T.o.1 underlying119 Jb ?_));refine (HW.o _).mono ?_;rintro e w1 ⟨rfl,b1⟩;have T1:=Za (T.o.next b1);clear T b1 HW;go_wp2_with (first | (refine Kz 119 w.heap.size T1.o.1 underlying119 Jb ?_));refine (HF.o _).mono ?_;rintro e w2 ⟨rfl,b2⟩;have T2:=Za (T1.o.next b2);clear T1 b2 HF;go_wp2_with (first | (refine UP (w.heap.size+2) (ZB ⟨r.ix,0⟩) 119 T2.o.2.2.1 Jb (Kf _) ?_));exact Yd (v:= .agg (ZB ⟨r.ix,0⟩)) (YC (fn:=Tryz.f246) rfl _ _ (w.heap.size+2) 119 (ZB ⟨r.ix,0⟩) (0,0) _ rfl (YA _ _ _ _ _ _ T2.o.2.2.1) underlying119 rfl Jb) rfl ⟨rfl,Xt T2.o.2.2.2 Zf _⟩
def Ub (W:Zc)(g n cp:Nat)(l:List ZN) :Prop:=W.ownsRow 0 68 7 (.slice (some ⟨g,0,none⟩) n cp) n (Xz l)
theorem Ub.next {W W':Zc}{g n cp:Nat}{l:List ZN}(h:Ub W g n cp l)(hb:Zp W.heap.size W W') :Ub W' g n cp l:=KE h (fun i hi=>hb.block i (ownsRow_lt h hi))
 where ownsRow_lt {W:Zc} {g n cp:Nat} {l:List ZN} (h:Ub W g n cp l) {i:Nat} (hi:(Yj (some ⟨g,0,none⟩) n cp).ownBlock=some i) :i < W.heap.size:=(World.ownsRow.lt h i hi).2
theorem Ub.lt {W:Zc}{g n cp:Nat}{l:List ZN}(h:Ub W g n cp l) :g < W.heap.size:=(World.ownsRow.lt h g rfl).2
theorem Ub.range {W:Zc}{g n cp:Nat}{l:List ZN}(h:Ub W g n cp l)(hn:l.length=n){i:Nat}{v:ZN}(hi:l[i]?=some v) :W.rangeAt g (i*7) v.row:=by
 subst hn;obtain ⟨b,off,e,r⟩:=(EK (S:=fun _=>False) h (fun _ _ h=>h)).at hi;injection e with e;injection e with e1 e2 _;subst e1 e2;rwa [ZV] at r
theorem gR (r:Rq)(g n cp i:Nat)(l:List ZN)(v:ZN)(c:Nat->Int)(w:Zc)(hO:Ub w g n cp l)(hn:l.length=n)(hi:r.ix=(i:Int))(hl:l[i]?=some v)(hv:Yh v)(hr:V8 r)(hm:0<=c 5) :
  Zv Zb 246 #[.agg (ZB r),.slice (some ⟨g,0,none⟩) n cp,.agg (Zi c)] w fun e w'=>e= .returned (.agg (ZB ⟨r.ix,Bq v r.am (c 5)⟩))/\Ub w' g n cp (l.set i (F9 v r.am (c 5)))/\Zx (fun k=>k=g) w w':=by
 have T:=Za (RC.new w r c);have Fo:=(Zj.1 hl).1;have HW:=Za (fun w=>Ek r n w);rw [show VP r n=true from decide_eq_true Zf] at HW;have HA:=Za (fun w=>Cp v r.am c w hv hm hr.am.1);have HF:=Za (fun x w=>O6 r x w);have HO:Zl (Ub w g n cp l):=Za hO;have HV:=Za hl;have HX:=Za hi;have HN:=Za hn;have HG:Zl (g < w.heap.size):=Za hO.lt;have k1: ¬(i:Int)< 0:=Zf;have k2: ¬(n:Int)<=(i:Int):=Zf;have k3:(i:Int)< (n:Int):=Zf;obtain ⟨p,hp⟩:=ZT (Bq v r.am (c 5));obtain ⟨u,hu⟩:=ZT (F9 v r.am (c 5));rw [hp,hu] at HA;rw [hp,hu];clear hO hn hi hl hv hr hm hp hu;go_enter func246,ntmps246;go_upto_region 1 with (fail);simp only [Pb];generalize ((w.alloc (.cells (ZB r) 119)).alloc (.cells (Zi c) 30)).alloc (.cells (ZB Mm) 119)=W at*;go_wp2_with (first | (refine Kz 119 w.heap.size T.o.1 underlying119 Jb ?_));refine (HW.o _).mono ?_;rintro e w1 ⟨rfl,b1⟩;have T1:=Za (T.o.next b1);clear T b1 HW;go_upto_region 3 with (fail);have O1:Zl (Ub w1 g n cp l):=Za (KE HO.o (fun k hk=>by
  simp only [Y7,QC] at hk;subst hk;exact T1.o.2.2.2.block _ HG.o))
 have R1:=Za (O1.o.range HN.o HV.o);go_cut [7,8] from 16 to 28 (fun s7 s8 wx=> ∃b7:Nat,s7= .pointer (some ⟨b7,0,none⟩)/\s8= .int .u64 p/\Zl (Zu wx b7 68 (Zd u)/\Zp w1.heap.size w1 wx))
 case first=>
  refine Mz (fun w'=>Zp w1.heap.size w1 w') 14 6 [0,1,2,3,4,5,6,7] (Zo _ _).drew ?_;refine JL ?_;show wpQuiet _ _ _ _ [_,_,_,_,_,_,_,_] _;refine B9 ?_;refine Vk 3 ⟨w.heap.size,0,none⟩ (.int .i64 i) (fun w' h=>(h.cell (p:=⟨w.heap.size,0,none⟩) T1.o.1.lt).trans ((T1.o.1.cell 0).trans (by rw [<-HX.o]; rfl))) ?_;refine X5 ?_;refine Gz ?_;refine KU 68 _ g (i*7) v _ rfl rfl rfl (fun w' h=>World.rangeAt.same R1.o (h.block g O1.o.lt)) underlying68 rfl Yb ?_;refine X5 ?_;refine Gz ?_;refine Vk 23 ⟨w.heap.size,1,none⟩ (.int .u64 r.am) (fun w' h=>(h.cell (p:=⟨w.heap.size,1,none⟩) T1.o.1.lt).trans (T1.o.1.cell 1)) ?_;refine X5 ?_;refine QP 30 _ (w.heap.size+1) 30 (Zi c) _ rfl rfl rfl (fun w' h=>T1.o.2.1.below h T1.o.2.1.lt) underlying30 rfl X7 ?_;refine X5 ?_;refine XK ?_;have D0:Zl (Zp w1.heap.size w1 w1.drew):=Za (Zo _ _).drew;generalize w1.drew=w0 at*;refine Vh (i:=8) (k:=12) ZC Zf Zf ?_ ?_
  ·refine JC #[.agg (Zd v),.int .u64 r.am,.agg (Zi c)] call276 ((HA.o w0).mono ?_);rintro e w3 ⟨rfl,bb⟩;have D3:Zl (Zp w1.heap.size w1 w3):=Za (D0.o.trans (bb.mono D0.o.size));clear bb;refine ⟨_,rfl,D3.o,?_⟩;refine Mh ?_;refine SR (fun w'=>Zp w1.heap.size w1 w') (m:=5) (f:=2) [9,10,11] D3.o ?_;refine JL ?_;refine Pw ?_;refine DL ?_;refine XK ?_;refine Jg (i:=12) ?_;refine Yz rfl rfl (Kc rfl ?_);have D4:Zl (Zp w1.heap.size w1 (w3.alloc (.cells (Zd ZS) 68))):=Za (D3.o.alloc D3.o.size _);have R4:Zl (Zu (w3.alloc (.cells (Zd ZS) 68)) w3.heap.size 68 (Zd ZS)):=Za (Zt _ _ _);have G4:Zl (w1.heap.size<=w3.heap.size):=Za D3.o.size;refine ⟨D4.o,?_⟩;generalize w3.alloc (.cells (Zd ZS) 68)=w4 at*;refine Mh ?_;refine Jg (i:=13) ?_;refine Yz rfl rfl (wp_store_row _ _ _ rfl w3.heap.size (Zd u) rfl rfl 68 _ R4.o Yb rfl (Ys _) ?_);have Z:Zl (Zu (w4.setRow w3.heap.size (Zd u)) w3.heap.size 68 (Zd u)/\Zp w1.heap.size w1 (w4.setRow w3.heap.size (Zd u))):=Za ⟨YA _ _ _ _ _ _ R4.o,Xt D4.o G4.o _⟩;refine ⟨Z.o.2,?_⟩;generalize w4.setRow w3.heap.size (Zd u)=w5 at*;exact ZhI
  ·refine Yz rfl rfl (Kc rfl ?_);have D3:Zl (Zp w1.heap.size w1 (w0.alloc (.cells (Zd ZS) 68))):=Za (D0.o.alloc D0.o.size _);have R3:Zl (Zu (w0.alloc (.cells (Zd ZS) 68)) w0.heap.size 68 (Zd ZS)):=Za (Zt _ _ _);have G3:Zl (w1.heap.size<=w0.heap.size):=Za D0.o.size;refine ⟨D3.o,?_⟩;generalize w0.alloc (.cells (Zd ZS) 68)=w3 at*;refine Mh ?_;refine Jg (i:=8) ?_;refine JC #[.agg (Zd v),.int .u64 r.am,.agg (Zi c)] call276 ((HA.o w3).mono ?_);rintro e w4 ⟨rfl,bb⟩;have D4:Zl (Zp w1.heap.size w1 w4):=Za (D3.o.trans (bb.mono D3.o.size));have R4:Zl (Zu w4 w0.heap.size 68 (Zd ZS)):=Za (R3.o.below bb R3.o.lt);clear bb;refine ⟨_,rfl,D4.o,?_⟩;refine Mh ?_;refine SR (fun w'=>Zp w1.heap.size w1 w') (m:=4) (f:=1) [9,10,11] D4.o ?_;refine JL ?_;refine Pw ?_;refine DL ?_;refine XK ?_;refine Jg (i:=13) ?_;refine Yz rfl rfl (wp_store_row _ _ _ rfl w0.heap.size (Zd u) rfl rfl 68 _ R4.o Yb rfl (Ys _) ?_);have Z:Zl (Zu (w4.setRow w0.heap.size (Zd u)) w0.heap.size 68 (Zd u)/\Zp w1.heap.size w1 (w4.setRow w0.heap.size (Zd u))):=Za ⟨YA _ _ _ _ _ _ R4.o,Xt D4.o G3.o _⟩;refine ⟨Z.o.2,?_⟩;generalize w4.setRow w0.heap.size (Zd u)=w5 at*;exact ZhI
 case rest=>
  obtain ⟨b7,rfl,rfl,Z⟩:=hcut;have T2:=Za (T1.o.next Z.o.2);have O2:Zl (Ub wc g n cp l):=Za (O1.o.next Z.o.2);have F2:Zl (wc.there g (i*7) 7/\Ub (wc.setCells g (i*7) (Zd u).toList) g n cp (l.set i u)):=Za (by
   have h:=O2.o;unfold Ub at h ⊢;have hn:=HN.o;subst hn;have:=NS h HV.o u;exact ⟨this.2,this.1⟩)
  have K2:Zl (Zu (wc.setCells g (i*7) (Zd u).toList) w.heap.size 119 (ZB r)/\Zu (wc.setCells g (i*7) (Zd u).toList) (w.heap.size+2) 119 (ZB Mm)/\Zx (fun k=>k=g) w (wc.setCells g (i*7) (Zd u).toList)):=Za (by
   have k:Zx (fun k=>k=g) wc (wc.setCells g (i*7) (Zd u).toList):=Q6 _ _ _ (ZM _ _) (.inl rfl);have hg:=HG.o;obtain ⟨h1,h2,h3,h4⟩:=T2.o;exact ⟨h1.kept k Zf,h3.kept k Zf,(YR h4).trans k (fun _ _ h=>h)⟩)
  have x0:wc.cell? ⟨w.heap.size,0,none⟩=some (.int .i64 (i:Int)):=(T2.o.1.cell 0).trans (by rw [<-HX.o]; rfl);clear T1 O1 R1 HA O2;go_upto_region 5 with (first | (refine Kz 68 b7 Z.o.1 underlying68 Yb ?_) | (refine wpList_store_mid rfl 68 _ _ rfl g (i*7) (Zd u) rfl rfl F2.o.1 Yb (Ys u) ?_));have F3:=Za F2.o.2;clear Z F2 T2 x0;generalize wc.setCells g (i*7) (Zd u).toList=w3 at*;go_wp2_with (first | (refine Kz 119 w.heap.size K2.o.1 underlying119 Jb ?_));refine (HF.o p _).mono ?_;rintro e w4 ⟨rfl,b4⟩;have K4:Zl (Zu w4 (w.heap.size+2) 119 (ZB Mm)/\Zx (fun k=>k=g) w w4/\Ub w4 g n cp (l.set i u)):=Za ⟨K2.o.2.1.below b4 K2.o.2.1.lt,K2.o.2.2.trans (YR (S:=fun k=>k=g) b4) (fun _ _ h=>h),F3.o.next b4⟩;clear K2 F3 b4;go_wp2_with (first | (refine UP (w.heap.size+2) (ZB ⟨r.ix,p⟩) 119 K4.o.1 Jb (Kf _) ?_));have Y:Ub (w4.setRow (w.heap.size+2) (ZB ⟨r.ix,p⟩)) g n cp (l.set i u)/\Zx (fun k=>k=g) w (w4.setRow (w.heap.size+2) (ZB ⟨r.ix,p⟩)):=by
   have hg:=HG.o;refine ⟨KE K4.o.2.2 (fun k hk=>?_),K4.o.2.1.setRow (.inr Zf) _⟩;simp only [Y7,QC] at hk;subst hk;exact setRow_other _ _ _ _ Zf
  exact Yd (v:= .agg (ZB ⟨r.ix,p⟩)) (YC (fn:=Tryz.f246) rfl _ _ (w.heap.size+2) 119 (ZB ⟨r.ix,p⟩) (0,0) _ rfl (YA _ _ _ _ _ _ K4.o.1) underlying119 rfl Jb) rfl ⟨rfl,Y⟩
theorem gO (r:Rq)(a:Option Addr)(n cp:Nat)(l:List ZN)(c:Nat->Int)(w:Zc)(hO:w.ownsRow 0 68 7 (.slice a n cp) n (Xz l))(hn:l.length=n)(hf: ∀v ∈ l,Yh v)(hr:V8 r)(hm:0<=c 5) :
  Zv Zb 246 #[.agg (ZB r),.slice a n cp,.agg (Zi c)] w fun e w'=>e= .returned (.agg (ZB ⟨r.ix,NU l r (c 5)⟩))/\w'.ownsRow 0 68 7 (.slice a n cp) n (Xz (Du l r (c 5)))/\Zx (fun k=>(Yj a n cp).ownBlock=some k) w w':=by
 by_cases h:VP r l.length=true
 ·obtain ⟨i,v,hi,hv⟩:=Ax h;obtain ⟨_,e1,e2⟩:=Ig (c 5) hi hv;have Fo:=(Zj.1 hv).1;rw [e1,e2];obtain ⟨g,rfl⟩ : ∃g,a=some ⟨g,0,none⟩:=by
   rcases hO.2 with ⟨_,h0⟩ | ⟨g,GP,cur,h1,_⟩
   ·omega
   ·injection h1 with h1 _ _;exact ⟨g,h1⟩
  exact (gR r g n cp i l v c w hO hn hi hv (hf v (Zy hv)) hr hm).mono fun e w' ⟨he,ho,k⟩=>⟨he,ho,k.more (fun i _ e=>by subst e; rfl)⟩
 ·have e1:NU l r (c 5)=0:=by unfold NU; rw [if_neg h]
  have e2:Du l r (c 5)=l:=by unfold Du; rw [if_neg h]
  rw [e1,e2];exact (nm r a n cp c w (by rw [<-hn]; simpa using h)).mono fun e w' ⟨he,hb⟩=>⟨he,KE hO (fun k hk=>hb.block k (hO.lt k hk).2),YR hb⟩
end
section
open Go Go.RowKit Go.Deep
theorem ie (B b n:Nat)(v:Zk)(P:List Py)(r:Rq)(w:Zc)(hO:w.ownsRow B 252 3 v n (YK Vw P))(hn:P.length=n)(hB:B<=w.heap.size)(hb:Zu w b 119 (ZB r))(h60:n<=4096) :
  Zv Zb 245 #[v,.slice (some ⟨b,0,none⟩) 1 1] w fun e w'=> ∃v',e= .returned v'/\w'.ownsRow B 252 3 v' (P++Lm r.ix r.am).length (YK Vw (P++Lm r.ix r.am))/\Zx (fun k=>v.ownBlock=some k) w w':=by
 have HO:=Za hO;have HN:=Za hn;have HB:=Za hb;have HS:=Za hB;have HE:=Za (fun w=>Ak r w);obtain ⟨j0,fF,BK,Rt,qR⟩:=ju;have i1: ¬(0:Int)< 0:=Zf
 by_cases h0:r.am=0
 ·rw [decide_eq_true h0] at HE;have E:Zl (P++Lm r.ix r.am=P):=Za (by rw [Lm,if_pos h0,List.append_nil]);rw [E.o];clear hO hn hB hb h0 E;go_enter func245,ntmps245;go_wp2_with fail;refine tH ?_;go_wp2_with (first | (refine Kz 119 b HB.o underlying119 Jb ?_) | (refine UP w.heap.size (ZB r) 119 (ZA w _) Jb (Kf _) ?_; rw [Zr]) | (refine Kz 119 w.heap.size (ZA w _) underlying119 Jb ?_));refine (HE.o _).mono ?_;rintro e w1 ⟨rfl,b1⟩;have A1:Zl (Zp w.heap.size w w1):=Za (((Zo _ w).alloc (Zh _) _).trans (b1.mono ZE));clear b1;go_wp2_with fail;rw [Y4];go_wp2_with fail;go_ret;refine ⟨_,rfl,?_,YR A1.o⟩;rw [HN.o];exact Gu HO.o A1.o
 ·rw [decide_eq_false h0] at HE;have E:Zl (P++Lm r.ix r.am=P++[⟨r.ix,r.am,false⟩]):=Za (by rw [Lm,if_neg h0]);rw [E.o];clear hO hn hB hb h0 E;go_enter func245,ntmps245;go_wp2_with fail;refine tH ?_;go_wp2_with (first | (refine Kz 119 b HB.o underlying119 Jb ?_) | (refine UP w.heap.size (ZB r) 119 (ZA w _) Jb (Kf _) ?_; rw [Zr]) | (refine Kz 119 w.heap.size (ZA w _) underlying119 Jb ?_));refine (HE.o _).mono ?_;rintro e w1 ⟨rfl,b1⟩;have K1:Zl (Vp w.heap.size w.heap.size 119 (ZB r) w w1):=Za (by
   have k:=Vp.new (t:=119) (cs:=ZB r) (Zo w.heap.size w) (Zh _);exact ⟨k.1.below b1 k.1.lt,k.2.1.trans (b1.mono k.2.2),Nat.le_trans k.2.2 b1.size⟩)
  have O1:Zl (w1.ownsRow B 252 3 v n (YK Vw P)):=Za (Gu HO.o K1.o.2.1);have x0:=QS K1.o.1 0;have x1:=QS K1.o.1 1;clear b1 HB;go_wp2_with (first | (refine F6 rfl 252 _ rfl ⟨r.ix,r.am,false⟩ ZC ?_) | (refine Oh rfl _ ⟨r.ix,r.am,false⟩ rfl rfl ?_) | (at_builtin; refine XU _ rfl (.tmp 16) (.tmp 22) 51 rfl B 252 j0 _ 3 24 underlying51 fF BK Rt qR (Fi _) Zf v n (YK Vw P) rfl (Qv O1.o _) (some ⟨w1.heap.size,0,none⟩) 1 1 (Vw ⟨r.ix,r.am,false⟩) rfl rfl (fun _=>⟨_,rfl,gu w1 _ _⟩) (Py.row_one _) GU Zf (by have:=HS.o; have:=K1.o.2.2; simp; omega) ?_; intro v1 w8 ho hg hv));have Z:Zl (w8.ownsRow B 252 3 v1 (n+1) (YK Vw (P++[⟨r.ix,r.am,false⟩]))/\Zx (fun k=>v.ownBlock=some k) w w8):=Za ⟨by rw [Uy,LY]; exact ho,(YR K1.o.2.1).alloc _ |>.trans (Xu (S:=fun k=>v.ownBlock=some k) hg (fun i hi=>hi.symm)) (fun _ _ h=>h)⟩;clear ho hg hv O1 K1 x0 x1;go_wp2_with fail;rw [Y4];go_wp2_with fail;go_ret;refine ⟨_,rfl,?_,Z.o.2⟩;rw [ZF,HN.o];exact Z.o.1
end
section
open Go Go.RowKit Go.Deep
structure Sp (w wr:Zc)(g9 g11:Nat)(a:Option Addr)(n cp:Nat)(v:Zk)(L:List ZN)(P:List Py)(c:Nat->Int) :Prop where
 cfg:Zu wr w.heap.size 30 (Zi c)
 aft:Zu wr g9 22 #[.slice a n cp]
 pay:Zu wr g11 51 #[v]
 own:wr.ownsRow (w.heap.size+1) 68 7 (.slice a n cp) n (Xz L)
 pys:wr.ownsRow (w.heap.size+1) 252 3 v P.length (YK Vw P)
 n9:w.heap.size < g9
 n11:w.heap.size < g11
 below:Zp w.heap.size w wr
section
variable {w wr w':Zc} {g9 g11:Nat} {a:Option Addr} {n cp:Nat} {v:Zk} {L:List ZN} {P:List Py} {c:Nat->Int}
theorem Sp.next (h:Sp w wr g9 g11 a n cp v L P c)(hb:Zp wr.heap.size wr w') :Sp w w' g9 g11 a n cp v L P c:=
 ⟨h.cfg.below hb h.cfg.lt,h.aft.below hb h.aft.lt,h.pay.below hb h.pay.lt,Gu h.own hb,Gu h.pys hb,h.n9,h.n11,h.below.trans (hb.mono h.below.size)⟩
theorem Sp.not_row (h:Sp w wr g9 g11 a n cp v L P c){b t:Nat}{cs:Array Zk}(hb:Zu wr b t cs)(ht:t≠68) : ¬(Yj a n cp).ownBlock=some b:=fun e=>by
 obtain ⟨cur,h1,_⟩:=UB h.own e;exact Js hb h1 ht rfl
theorem Sp.not_pys (h:Sp w wr g9 g11 a n cp v L P c){b t:Nat}{cs:Array Zk}(hb:Zu wr b t cs)(ht:t≠252) : ¬v.ownBlock=some b:=fun e=>by
 obtain ⟨cur,h1,_⟩:=UB h.pys e;exact Js hb h1 ht rfl
theorem Sp.turned (h:Sp w wr g9 g11 a n cp v L P c){L':List ZN}(ho:w'.ownsRow 0 68 7 (.slice a n cp) n (Xz L'))(k:Zx (fun i=>(Yj a n cp).ownBlock=some i) wr w') :Sp w w' g9 g11 a n cp v L' P c where
 cfg:=h.cfg.kept k (h.not_row h.cfg YW)
 aft:=h.aft.kept k (h.not_row h.aft YW)
 pay:=h.pay.kept k (h.not_row h.pay YW)
 own:=rZ ho fun i hi=>by
  obtain ⟨_,_,h1⟩:=UB h.own hi;exact h1
 pys:=Tj h.pys k fun i hi=>by
  obtain ⟨cur,h1,_⟩:=UB h.pys hi;exact h.not_row h1 YW
 n9:=h.n9
 n11:=h.n11
 below:=Zx.below h.below k (fun i hi=>by
  obtain ⟨_,_,h1⟩:=UB h.own hi;omega) h.below.size
theorem Sp.grown (h:Sp w wr g9 g11 a n cp v L P c){v':Zk}{P':List Py}(ho:w'.ownsRow (w.heap.size+1) 252 3 v' P'.length (YK Vw P'))(k:Zx (fun i=>v.ownBlock=some i) wr w') :
  Sp w (w'.setCell ⟨g11,0,none⟩ v') g9 g11 a n cp v' L P' c/\Zu w' g11 51 #[v]:=by
 have hp:=h.pay.kept k (h.not_pys h.pay YW);have hc:=h.cfg.kept k (h.not_pys h.cfg YW);have ha:=h.aft.kept k (h.not_pys h.aft YW);have hr:w'.ownsRow (w.heap.size+1) 68 7 (.slice a n cp) n (Xz L):=Tj h.own k fun i hi=>by
  obtain ⟨cur,h1,_⟩:=UB h.own hi;exact h.not_pys h1 YW
 have hb:Zp w.heap.size w w':=Zx.below h.below k (fun i hi=>by
  obtain ⟨_,_,h1⟩:=UB h.pys hi;omega) h.below.size
 refine ⟨⟨hc.far (Js hc hp YW) _,ha.far (Js ha hp YW) _,hp.set_ 0 v',Fw hr (fun i hi=>?_),Fw ho (fun i hi=>?_),h.n9,h.n11,hb.setCell (Nat.le_of_lt h.n11) _⟩,hp⟩
 ·obtain ⟨cur,h1,_⟩:=UB hr hi;exact Xg w' _ _ i (Js h1 hp YW)
 ·obtain ⟨cur,h1,_⟩:=UB ho hi;exact Xg w' _ _ i (Js h1 hp YW)
end
theorem aQ (w wr:Zc)(g9 g11:Nat)(a:Option Addr)(n cp:Nat)(v:Zk)(L:List ZN)(P:List Py)(c:Nat->Int)(r:Rq)(h:Sp w wr g9 g11 a n cp v L P c)(hn:L.length=n)(hf: ∀v ∈ L,Yh v)(hr:V8 r)(hm:0<=c 5)(hP:P.length<=4096) :
  Zv Zb 244 #[.agg (ZB r),.pointer (some ⟨g11,0,none⟩),.pointer (some ⟨g9,0,none⟩),.pointer (some ⟨w.heap.size,0,none⟩)] wr fun e w'=>e= .returned (.tuple #[])/\ ∃v',Sp w w' g9 g11 a n cp v' (Du L r (c 5)) (P++Lm r.ix (NU L r (c 5))) c:=by
 have H0:=Za (h.next ((Zo _ wr).alloc (Zh _) (.cells (ZB r) 119)));have HR:Zl (Zu (wr.alloc (.cells (ZB r) 119)) wr.heap.size 119 (ZB r)):=Za (Zt _ _ _);have HP:=Za (fun (W:Zc) (ho:W.ownsRow 0 68 7 (.slice a n cp) n (Xz L))=>gO r a n cp L c W ho hn hf hr hm);have HPL:=Za hP;obtain ⟨x,hx⟩:=ZT (NU L r (c 5));obtain ⟨L',hL'⟩ : ∃L',Du L r (c 5)=L':=⟨_,rfl⟩;rw [hx,hL'] at HP;rw [hx,hL'];clear h hn hf hr hm hP hx hL';go_enter func244,ntmps244;go_upto_region 1 with (fail);generalize wr.alloc (.cells (ZB r) 119)=W at*;generalize wr.heap.size=rb at*;refine Mz (fun w'=>Zu w' g11 51 #[v]/\Zu w' rb 119 (ZB r)/\Zu w' g9 22 #[.slice a n cp]/\Zu w' w.heap.size 30 (Zi c)) 7 3 [0,1,2,3] ⟨H0.o.pay,HR.o,H0.o.aft,H0.o.cfg⟩ ?_;refine JL ?_;refine He ?_;refine Vk 51 ⟨g11,0,none⟩ v (fun w' h=>h.1.cell 0) ?_;refine X5 ?_;refine QP 119 _ rb 119 (ZB r) _ rfl rfl rfl (fun w' h=>h.2.1) underlying119 rfl Jb ?_;refine X5 ?_;refine Vk 22 ⟨g9,0,none⟩ (.slice a n cp) (fun w' h=>h.2.2.1.cell 0) ?_;refine X5 ?_;refine QP 30 _ w.heap.size 30 (Zi c) _ rfl rfl rfl (fun w' h=>h.2.2.2) underlying30 rfl X7 ?_;refine X5 ?_;refine XK ?_;have H1:=Za (H0.o.next (Zo _ W).drew);have R1:Zl (Zu W.drew rb 119 (ZB r)):=Za HR.o;clear H0 HR;generalize W.drew=w1 at*;refine Jg (i:=4) ?_;refine JC #[.agg (ZB r),.slice a n cp,.agg (Zi c)] call246 ((HP.o w1 (Fv H1.o.own (Qu _))).mono ?_);rintro e w2 ⟨rfl,ho,k⟩;have H2:=Za (H1.o.turned ho k);have R2:Zl (Zu w2 rb 119 (ZB r)):=Za (R1.o.kept k (H1.o.not_row R1.o YW));clear ho k H1 R1 HP;refine ⟨_,rfl,⟨H2.o.pay,R2.o,H2.o.aft,H2.o.cfg⟩,?_⟩;refine Mh ?_;refine DM ?_;refine Yz rfl rfl (tC _ ⟨r.ix,x⟩ rfl rfl ?_);have H3:=Za (H2.o.next ((Zo _ w2).alloc (Zh _) (.cells (ZB ⟨r.ix,x⟩) 119)));have R3:Zl (Zu (w2.alloc (.cells (ZB ⟨r.ix,x⟩) 119)) rb 119 (ZB r)):=Za (R2.o.alloc _);have B3:Zl (Zu (w2.alloc (.cells (ZB ⟨r.ix,x⟩) 119)) w2.heap.size 119 (ZB ⟨r.ix,x⟩)):=Za (Zt _ _ _);clear H2 R2;generalize w2.alloc (.cells (ZB ⟨r.ix,x⟩) 119)=w3 at*;generalize w2.heap.size=b3 at*;refine ⟨⟨H3.o.pay,R3.o,H3.o.aft,H3.o.cfg⟩,?_⟩;refine Mh ?_;refine Mo ?_;refine JC #[v,.slice (some ⟨b3,0,none⟩) 1 1] call245 ((ie (w.heap.size+1) b3 P.length v P ⟨r.ix,x⟩ w3 H3.o.pys rfl (by have:=H3.o.cfg.lt; omega) B3.o HPL.o).mono ?_);rintro e w4 ⟨v',rfl,ho,k⟩;obtain ⟨a4,cp4,rfl,-,-⟩:=cS ho;have Z:=Za (H3.o.grown ho k);have S4:Zl (Zu w4 rb 119 (ZB r)/\Zu w4 g9 22 #[.slice a n cp]/\Zu w4 w.heap.size 30 (Zi c)):=Za ⟨R3.o.kept k (H3.o.not_pys R3.o YW),H3.o.aft.kept k (H3.o.not_pys H3.o.aft YW),H3.o.cfg.kept k (H3.o.not_pys H3.o.cfg YW)⟩;clear ho k H3 R3 B3;refine ⟨_,rfl,⟨Z.o.2,S4.o⟩,?_⟩;refine GO ?_;refine ⟨by kernel_rfl,?_⟩;refine Mh ?_;have z1:w4.cell? ⟨g11,0,none⟩=some v:=Z.o.2.cell 0;have z2:w4.frozen? ⟨g11,0,none⟩=false:=Z.o.2.frozen 0;go_wp2;refine Gy ?_;go_wp2_with fail;go_end0;have Y:=Z.o.1;rw [ZF] at Y;exact ⟨rfl,_,Y⟩
end
section
open Go Go.RowKit Go.Deep
theorem dA (a b:Option Addr)(cp cq:Nat)(l:List ZN)(q:List Rq)(c:Nat->Int)(w:Zc)(hL:DH w (fun _=>False) a l)(hq:VM Rq.row 2 w (fun _=>False) b q)(hf: ∀v ∈ l,Yh v)(hfq: ∀r ∈ q,V8 r)(h5:0<=c 5)(qK:0<=c 16)(hl:l.length<=4096)(hql:q.length<=4096)(hcq:q.length<=cq) :
  Zv Zb 207 #[.slice a l.length cp,.slice b q.length cq,.agg (Zi c)] w fun e w'=> ∃v p,e= .returned (.tuple #[v,p,.int .i64 (Up c q)])/\
   w'.ownsRow w.heap.size 68 7 v l.length (Xz (XC (c 5) l (q.take (Up c q))))/\w'.ownsRow w.heap.size 252 3 p (Ky (c 5) l (q.take (Up c q))).length (YK Vw (Ky (c 5) l (q.take (Up c q))))/\Zp w.heap.size w w':=by
 obtain ⟨m,hm⟩:=ZT (Up c q);have hmq:m<=q.length:=by rw [<-hm]; exact Nat.min_le_right _ _
 have mD:min (c 16) (q.length:Int)=(m:Int):=by rw [<-hm]; unfold Up; omega
 have ee:max (0:Int) (m:Int)=(m:Int):=Zf;rw [hm];have hm60:m<=4096:=Zf;have fI:m<=cq:=Zf;have hB:Zu (w.alloc (.cells (Zi c) 30)) w.heap.size 30 (Zi c):=Zt _ _ _;have b0:Zp w.heap.size w (w.alloc (.cells (Zi c) 30)):=(Zo _ _).alloc (Zh _) _;have HB:=Za (Zn hB b0);have HC:=Za (OL (fun _=>False) a cp l (w.alloc (.cells (Zi c) 30)) (hL.below b0) Zf);have HQ:=Za hq;have HF:=Za (fun k=>Ei (c 5) h5 (q.take k) l (fun r hr=>hfq r (List.mem_of_mem_take hr)) hf);have HFQ:=Za hfq;have HP:=Za (fun k=>Pe (c 5) (q.take k) l);have HS:Zl ((w.alloc (.cells (Zi c) 30)).heap.size=w.heap.size+1):=Za ZE;obtain ⟨n,hn⟩:=ZT (l.length);obtain ⟨nq,xm⟩:=ZT (q.length);rw [hn] at HC ⊢;rw [xm] at mD hmq ⊢;have HN:=Za (Zn hn xm);have CQ: ∀(fn:Fn) (first cap:Array Zk) (w:Zc),(Instr.makeFunc fn first cap).run Zb w= .ok (.func fn first cap) w:=fun _ _ _ _=>rfl
 clear hB b0 hL hq hf hfq hm hn xm hcq;go_enter func207,ntmps207;go_upto_region 1 with (fail);generalize w.alloc (.cells (Zi c) 30)=W at*;go_wp2_with fail;refine HC.o.mono ?_;rintro e w1 ⟨v,rfl,ho,b1⟩;obtain ⟨a',GP,rfl,-,-⟩:=Um (Ba ho (Qu _));have H1:Zl (w1.ownsRow (w.heap.size+1) 68 7 (.slice a' n GP) n (Xz l)/\Zu w1 w.heap.size 30 (Zi c)/\Zp w.heap.size w w1):=Za ⟨HS.o▸ho,HB.o.1.below b1 HB.o.1.lt,HB.o.2.trans (b1.mono HB.o.2.size)⟩;clear ho b1 HB HC HS;go_upto_region 2 with (fail);have H2:Zl ((w1.alloc (.cells #[.slice a' n GP] 22)).ownsRow (w.heap.size+1) 68 7 (.slice a' n GP) n (Xz l)/\Zu (w1.alloc (.cells #[.slice a' n GP] 22)) w.heap.size 30 (Zi c)/\Zp w.heap.size w (w1.alloc (.cells #[.slice a' n GP] 22))/\
   Zu (w1.alloc (.cells #[.slice a' n GP] 22)) w1.heap.size 22 #[.slice a' n GP]/\w.heap.size < w1.heap.size):=Za ⟨Qv H1.o.1 _,H1.o.2.1.alloc _,H1.o.2.2.alloc H1.o.2.2.size _,Zt _ _ _,H1.o.2.1.lt⟩
 clear H1;generalize w1.alloc (.cells #[.slice a' n GP] 22)=w2 at*;generalize w1.heap.size=g9 at*;have x16:=QS H2.o.2.1 16;go_upto_region 5 with (fail);have A0:Zl (Sp w (w2.alloc (.cells #[.slice none 0 0] 51)) g9 w2.heap.size a' n GP (.slice none 0 0) (XC (c 5) l (q.take 0)) (Ky (c 5) l (q.take 0)) c):=Za
  { cfg:=H2.o.2.1.alloc _,aft:=H2.o.2.2.2.1.alloc _,pay:=Zt _ _ _,own:=Qv H2.o.1 _,pys:=YX _ _ _ _,n9:=H2.o.2.2.2.2,n11:=H2.o.2.1.lt,below:=H2.o.2.2.1.alloc H2.o.2.2.1.size _}
 clear H2 x16 mD ee CQ;generalize w2.alloc (.cells #[.slice none 0 0] 51)=w3 at*;generalize w2.heap.size=g11 at*;go_wp2;go_loopw [14,28] (fun s14 s28 wr=> ∃(k:Nat) (v:Zk),k<=m/\s28= .int .i64 k/\Zl (Sp w wr g9 g11 a' n GP v (XC (c 5) l (q.take k)) (Ky (c 5) l (q.take k)) c)) (fun _ s28 _=>m -(intOf s28).toNat)
 case atStart=>exact ⟨0,_,by omega,rfl,A0⟩
 case round=>
  obtain ⟨k,v,hk,rfl,HA⟩:=hrel;clear A0
  by_cases XV:k < m
  ·obtain ⟨r,hr⟩ : ∃r,q[k]?=some r:=⟨_,Zg ZO⟩;obtain ⟨qb,qo,rfl,-,hqb,hrp⟩:=HQ.o.at hr;have HR:=Za hr;have R1:Zl (wr.rangeAt qb (qo+k*2) r.row):=Za (NW hrp (HA.o.below.block qb hqb));have k1: ¬(k:Int)< 0:=Zf;have k2: ¬(m:Int)<=(k:Int):=Zf;have k3:(k:Int)< (m:Int):=Zf;have HCO:Zl (∀w1,Sp w w1 g9 g11 a' n GP v (XC (c 5) l (q.take k)) (Ky (c 5) l (q.take k)) c->Zv Zb 244 #[.agg (ZB r),.pointer (some ⟨g11,0,none⟩),.pointer (some ⟨g9,0,none⟩),.pointer (some ⟨w.heap.size,0,none⟩)] w1 fun e w'=>e= .returned (.tuple #[])/\ ∃v',Sp w w' g9 g11 a' n GP v' (XC (c 5) l (q.take (k+1))) (Ky (c 5) l (q.take (k+1))) c):=Za (fun w1 h=>by
    rw [WU HR.o,WT,iJ];refine aQ w w1 g9 g11 a' n GP v _ _ c r h (by rw [BU]; exact HN.o.1) (HF.o k) (HFQ.o r (Zy HR.o)) h5 ?_;have:=HP.o k;rw [Xr] at this;omega)
   have A1:=Za (HA.o.next ((Zo _ wr).alloc (Zh _) (.cells (ZB r) 119)));clear hr hrp HA;go_wp2_with (first | (refine We rfl 119 _ rfl qb (qo+k*2) rfl r _ R1.o underlying119 rfl Jb ?_) | (refine UP wr.heap.size (ZB r) 119 (ZA wr _) Jb (Kf _) ?_; rw [Zr]) | (refine Kz 119 wr.heap.size (ZA wr _) underlying119 Jb ?_));refine (HCO.o _ A1.o).mono ?_;rintro e w8 ⟨rfl,v',hA8⟩;have A8:=Za hA8;clear hA8 A1 R1 HCO;go_wp2;go_roundw
   case rel=>exact ⟨k+1,v',by omega,by go_num,A8⟩
   case measure=>exact VL
  ·obtain rfl:k=m:=Zf;clear XV;have XV: ¬k < k:=Zf;have y9:=QS HA.o.aft 0;have y11:wr.cell? ⟨g11,0,none⟩=some v:=HA.o.pay.cell 0;go_wp2;go_quiet (fail);go_wp2;go_ret3;exact ⟨_,_,rfl,Ba HA.o.own Zf,Fv HA.o.pys Zf,below_drewN HA.o.below _⟩
end
section
open Go.RowKit
def fx:Nat->Nat
 | 0=>146
 | 1=>148
 | 2=>149
 | 3=>150
 | 4=>151
 | 5=>153
 | 6=>154
 | 7=>155
 | 8=>156
 | 9=>157
 | 10=>158
 | 11=>159
 | 12=>160
 | 13=>161
 | 14=>162
 | 15=>163
 | 16=>164
 | 17=>165
 | 18=>166
 | 19=>167
 | _=>0
def isI (k:Nat) :Bool:=decide (k < 2\/(10<=k/\k < 18))
def pv (bc k:Nat) :Zk:=if isI k then .pointer (some ⟨bc,k,none⟩) else .pointer none
def qv (bc k:Nat) :Zk:=if isI k then .pointer none else .pointer (some ⟨bc,k,none⟩)
def ent (bp bc k:Nat) :Array Zk:= #[pv bc k,qv bc k,.func (.func (fx k)) #[] #[.pointer (some ⟨bp,0,none⟩)]]
theorem Av (k:Nat)(hk:k < 20)(bp bc:Nat)(c:Nat->Int)(w:Zc)(hp:w.cell? ⟨bp,0,none⟩=some (.pointer (some ⟨bc,0,none⟩)))(hc:Zu w bc 30 (Zi c)) :
  Zv Zb (fx k) #[.pointer (some ⟨bp,0,none⟩)] w fun e w'=>e= .returned (.bool (Yl c k))/\ ∃n,w'=w.drewN n:=by
 have:k=0\/k=1\/k=2\/k=3\/k=4\/k=5\/k=6\/k=7\/k=8\/k=9\/k=10\/k=11\/k=12\/k=13\/k=14\/k=15\/k=16\/k=17\/k=18\/k=19:=Zf
 rcases this with rfl | rfl | rfl | rfl | rfl | rfl | rfl | rfl | rfl | rfl | rfl | rfl | rfl | rfl | rfl | rfl | rfl | rfl | rfl | rfl
 ·exact ZcT bp bc c w hp hc
 ·exact ZcU bp bc c w hp hc
 ·exact ZcV bp bc c w hp hc
 ·exact ZcW bp bc c w hp hc
 ·exact ZcX bp bc c w hp hc
 ·exact ZcY bp bc c w hp hc
 ·exact ZcZ bp bc c w hp hc
 ·exact Zc0 bp bc c w hp hc
 ·exact Zc1 bp bc c w hp hc
 ·exact Zc2 bp bc c w hp hc
 ·exact xn bp bc c w hp hc
 ·exact xo bp bc c w hp hc
 ·exact xp bp bc c w hp hc
 ·exact xq bp bc c w hp hc
 ·exact xr bp bc c w hp hc
 ·exact xu bp bc c w hp hc
 ·exact xw bp bc c w hp hc
 ·exact xx bp bc c w hp hc
 ·exact xy bp bc c w hp hc
 ·exact xz bp bc c w hp hc
theorem fK (bp bc:Nat)(w:Zc) :(Yn 178 (.agg (GY bp bc)) (.int .i64 (0:Nat))).run Zb w= .ok (.agg (ent bp bc 0)) w:=ZC
theorem fL (bp bc:Nat)(w:Zc) :(Yn 178 (.agg (GY bp bc)) (.int .i64 (1:Nat))).run Zb w= .ok (.agg (ent bp bc 1)) w:=ZC
theorem fM (bp bc:Nat)(w:Zc) :(Yn 178 (.agg (GY bp bc)) (.int .i64 (2:Nat))).run Zb w= .ok (.agg (ent bp bc 2)) w:=ZC
theorem fN (bp bc:Nat)(w:Zc) :(Yn 178 (.agg (GY bp bc)) (.int .i64 (3:Nat))).run Zb w= .ok (.agg (ent bp bc 3)) w:=ZC
theorem fO (bp bc:Nat)(w:Zc) :(Yn 178 (.agg (GY bp bc)) (.int .i64 (4:Nat))).run Zb w= .ok (.agg (ent bp bc 4)) w:=ZC
theorem fP (bp bc:Nat)(w:Zc) :(Yn 178 (.agg (GY bp bc)) (.int .i64 (5:Nat))).run Zb w= .ok (.agg (ent bp bc 5)) w:=ZC
theorem fQ (bp bc:Nat)(w:Zc) :(Yn 178 (.agg (GY bp bc)) (.int .i64 (6:Nat))).run Zb w= .ok (.agg (ent bp bc 6)) w:=ZC
theorem fR (bp bc:Nat)(w:Zc) :(Yn 178 (.agg (GY bp bc)) (.int .i64 (7:Nat))).run Zb w= .ok (.agg (ent bp bc 7)) w:=ZC
theorem fS (bp bc:Nat)(w:Zc) :(Yn 178 (.agg (GY bp bc)) (.int .i64 (8:Nat))).run Zb w= .ok (.agg (ent bp bc 8)) w:=ZC
theorem fT (bp bc:Nat)(w:Zc) :(Yn 178 (.agg (GY bp bc)) (.int .i64 (9:Nat))).run Zb w= .ok (.agg (ent bp bc 9)) w:=ZC
theorem bW (bp bc:Nat)(w:Zc) :(Yn 178 (.agg (GY bp bc)) (.int .i64 (10:Nat))).run Zb w= .ok (.agg (ent bp bc 10)) w:=ZC
theorem bX (bp bc:Nat)(w:Zc) :(Yn 178 (.agg (GY bp bc)) (.int .i64 (11:Nat))).run Zb w= .ok (.agg (ent bp bc 11)) w:=ZC
theorem bY (bp bc:Nat)(w:Zc) :(Yn 178 (.agg (GY bp bc)) (.int .i64 (12:Nat))).run Zb w= .ok (.agg (ent bp bc 12)) w:=ZC
theorem bZ (bp bc:Nat)(w:Zc) :(Yn 178 (.agg (GY bp bc)) (.int .i64 (13:Nat))).run Zb w= .ok (.agg (ent bp bc 13)) w:=ZC
theorem cb (bp bc:Nat)(w:Zc) :(Yn 178 (.agg (GY bp bc)) (.int .i64 (14:Nat))).run Zb w= .ok (.agg (ent bp bc 14)) w:=ZC
theorem cc (bp bc:Nat)(w:Zc) :(Yn 178 (.agg (GY bp bc)) (.int .i64 (15:Nat))).run Zb w= .ok (.agg (ent bp bc 15)) w:=ZC
theorem cg (bp bc:Nat)(w:Zc) :(Yn 178 (.agg (GY bp bc)) (.int .i64 (16:Nat))).run Zb w= .ok (.agg (ent bp bc 16)) w:=ZC
theorem ch (bp bc:Nat)(w:Zc) :(Yn 178 (.agg (GY bp bc)) (.int .i64 (17:Nat))).run Zb w= .ok (.agg (ent bp bc 17)) w:=ZC
theorem cj (bp bc:Nat)(w:Zc) :(Yn 178 (.agg (GY bp bc)) (.int .i64 (18:Nat))).run Zb w= .ok (.agg (ent bp bc 18)) w:=ZC
theorem ck (bp bc:Nat)(w:Zc) :(Yn 178 (.agg (GY bp bc)) (.int .i64 (19:Nat))).run Zb w= .ok (.agg (ent bp bc 19)) w:=ZC
theorem mK (bp bc k:Nat)(hk:k < 20)(w:Zc) :(Yn 178 (.agg (GY bp bc)) (.int .i64 k)).run Zb w= .ok (.agg (ent bp bc k)) w:=by
 have:k=0\/k=1\/k=2\/k=3\/k=4\/k=5\/k=6\/k=7\/k=8\/k=9\/k=10\/k=11\/k=12\/k=13\/k=14\/k=15\/k=16\/k=17\/k=18\/k=19:=Zf
 rcases this with rfl | rfl | rfl | rfl | rfl | rfl | rfl | rfl | rfl | rfl | rfl | rfl | rfl | rfl | rfl | rfl | rfl | rfl | rfl | rfl
 ·exact fK bp bc w
 ·exact fL bp bc w
 ·exact fM bp bc w
 ·exact fN bp bc w
 ·exact fO bp bc w
 ·exact fP bp bc w
 ·exact fQ bp bc w
 ·exact fR bp bc w
 ·exact fS bp bc w
 ·exact fT bp bc w
 ·exact bW bp bc w
 ·exact bX bp bc w
 ·exact bY bp bc w
 ·exact bZ bp bc w
 ·exact cb bp bc w
 ·exact cc bp bc w
 ·exact cg bp bc w
 ·exact ch bp bc w
 ·exact cj bp bc w
 ·exact ck bp bc w
theorem l6 (k:Nat)(hk:k < 20)(args:Array Zk)(w:Zc) :(callFunc (fx k) args).run Zb w= .ok (.enter (fx k) args) w:=by
 have:k=0\/k=1\/k=2\/k=3\/k=4\/k=5\/k=6\/k=7\/k=8\/k=9\/k=10\/k=11\/k=12\/k=13\/k=14\/k=15\/k=16\/k=17\/k=18\/k=19:=Zf
 rcases this with rfl | rfl | rfl | rfl | rfl | rfl | rfl | rfl | rfl | rfl | rfl | rfl | rfl | rfl | rfl | rfl | rfl | rfl | rfl | rfl
 ·exact call146 args w
 ·exact call148 args w
 ·exact call149 args w
 ·exact call150 args w
 ·exact call151 args w
 ·exact call153 args w
 ·exact call154 args w
 ·exact call155 args w
 ·exact call156 args w
 ·exact call157 args w
 ·exact call158 args w
 ·exact call159 args w
 ·exact call160 args w
 ·exact call161 args w
 ·exact call162 args w
 ·exact call163 args w
 ·exact call164 args w
 ·exact call165 args w
 ·exact call166 args w
 ·exact call167 args w
theorem jC (bp bc k:Nat) :(ent bp bc k).all (·.oneCell')=true:=by
 unfold ent pv qv
 cases isI k <;> simp [Kn]
theorem rv:(Tryz.prog.info? 177).map (·.size)=some 3:=ZC
theorem lP (c:Nat->Int)(w:Zc) :
  Z3 73 #[.agg (Zi c)] w (.int .i64 (Ws c)):=by
 unfold Zi;go_enter func73,ntmps73;go_wp2_with (first
  | (go_at_call 119; refine (a8 _ _).mono ?_; rintro e w1 ⟨rfl,EX,hbel1⟩))
 go_loopw [6] (fun v wr=> ∃k:Nat,k<=20/\v= .int .i64 (k:Int)/\Df c k/\Zu wr w.heap.size 30 (Zi c)/\Zu wr (w.heap.size+1) 180 #[.pointer (some ⟨w.heap.size,0,none⟩)]/\Zp w.heap.size w wr) (fun v _=>(21 - intOf v).toNat)
 case atStart=>
  refine ⟨0,by omega,rfl,Hp c,(Zt w 30 (Zi c)).below hbel1 ZE,by simpa using EX,((Zo _ _).alloc (Zh _) _).trans (hbel1.mono ZE)⟩
 case round=>
  obtain ⟨k,hk,rfl,hbf,hb,hp,Rr⟩:=hrel;have XV:=hb.lt;have q7:=hp.lt;clear EX hbel1
  by_cases wR:k < 20
  ·have hix: ∀W,(Yn 178 (.agg (GY (w.heap.size+1) w.heap.size)) (.int .i64 k)).run Zb W= .ok (.agg #[pv w.heap.size k,qv w.heap.size k,.func (.func (fx k)) #[] #[.pointer (some ⟨w.heap.size+1,0,none⟩)]]) W:=mK (w.heap.size+1) w.heap.size k wR;have hen:=l6 k wR
   cases hr:Yl c k with
   | false=>
    have R:Zl (∀W (hp:W.cell? ⟨w.heap.size+1,0,none⟩=some (.pointer (some ⟨w.heap.size,0,none⟩))) (hc:Zu W w.heap.size 30 (Zi c)),_):=Za (fun W hp hc=>Av k wR (w.heap.size+1) w.heap.size c W hp hc);rw [hr] at R;have H:=Za (eN wR hbf hr);clear hr;go_wp2_with (first
     | (refine YH rfl _ _ _ rfl wr.heap.size #[pv w.heap.size k,qv w.heap.size k,.func (.func (fx k)) #[] #[.pointer (some ⟨w.heap.size+1,0,none⟩)]] rfl rfl 177 _ (ZA wr _) rv rfl (jC _ _ _) ?_; rw [Zr])
     | (refine (R.o _ ((hp.alloc _).cell 0) (hb.alloc _)).mono ?_; rintro e w1 ⟨rfl,n,rfl⟩))
    go_ret;exact ⟨FB H.o.symm,below_drewN (Rr.alloc Zf _) n⟩
   | true=>
    have R:Zl (∀W (hp:W.cell? ⟨w.heap.size+1,0,none⟩=some (.pointer (some ⟨w.heap.size,0,none⟩))) (hc:Zu W w.heap.size 30 (Zi c)),_):=Za (fun W hp hc=>Av k wR (w.heap.size+1) w.heap.size c W hp hc);rw [hr] at R;have H:=Za (Ho hbf hr);clear hr;go_wp2_with (first
     | (refine YH rfl _ _ _ rfl wr.heap.size #[pv w.heap.size k,qv w.heap.size k,.func (.func (fx k)) #[] #[.pointer (some ⟨w.heap.size+1,0,none⟩)]] rfl rfl 177 _ (ZA wr _) rv rfl (jC _ _ _) ?_; rw [Zr])
     | (refine (R.o _ ((hp.alloc _).cell 0) (hb.alloc _)).mono ?_; rintro e w1 ⟨rfl,n,rfl⟩))
    go_roundw
    case rel=>exact ⟨k+1,by omega,by go_num,H.o,(hb.alloc _).drewN n,(hp.alloc _).drewN n,below_drewN (Rr.alloc Zf _) n⟩
    case measure=>exact VL
  ·exact ZaC
end
section
open Go Go.ChangeShapes Go.WideShapes Go.RowKit Go.Deep
structure Sx where
 bk:Int
 ep:Int
 va:Option Addr
 vn:Nat
 vc:Nat
 D:Int
 P:Int
 B:Int
 ac:Int
 pa:Option Addr
 pn:Nat
 pc:Nat
 fa:Option Addr
 fn:Nat
 fc:Nat
 wa:Option Addr
 wn:Nat
 wc:Nat
 ma:Option Addr
 mn:Nat
 mc:Nat
 ta:Option Addr
 tn:Nat
 tc:Nat
 cu:Int
 cy:Int
 un:Int
def Sx.row (v:Sx) :List Zk:= [.int .i64 v.bk,.int .i64 v.ep,.slice v.va v.vn v.vc,.int .u64 v.D,.int .u64 v.P,.int .u64 v.B,.int .u64 v.ac,.slice v.pa v.pn v.pc,.slice v.fa v.fn v.fc,.slice v.wa v.wn v.wc,.slice v.ma v.mn v.mc,.slice v.ta v.tn v.tc,.int .i64 v.cu,.int .u64 v.cy,.int .i64 v.un]
def Yy (v:Sx) :Array Zk:=v.row.toArray
def J64 (x:Int) :Prop:= -9223372036854775808<=x/\x<=9223372036854775807
def K64 (x:Int) :Prop:=0<=x/\x<=18446744073709551615
structure Zca (v:Sx) :Prop where
 bk:J64 v.bk
 ep:J64 v.ep
 D:K64 v.D
 P:K64 v.P
 B:K64 v.B
 ac:K64 v.ac
 un:J64 v.un
 mn:v.mn<=X8
 tn:v.tn<=X8
structure vJ (w:Zc)(S:Nat->Prop)(v:Sx)(V:List ZN)(pd F W:List Int) :Prop where
 nums:Zca v
 vl:DH w S v.va V
 vn:V.length=v.vn
 vc:v.vn<=v.vc/\v.vc<=X8
 vf: ∀x ∈ V,Yh x
 pl:Qf w S v.pa pd
 pn:pd.length=v.pn
 pc:v.pn<=v.pc/\v.pc<=X8
 pf: ∀x ∈ pd,(Lit.int .i64 x).wf=true
 fl:Qf w S v.fa F
 fn:F.length=v.fn
 fc:v.fn<=v.fc/\v.fc<=X8
 ff: ∀x ∈ F,(Lit.int .i64 x).wf=true
 wl:Qf w S v.wa W
 wn:W.length=v.wn
 wc:v.wn<=v.wc/\v.wc<=X8
 wf: ∀x ∈ W,(Lit.int .i64 x).wf=true
def Ud (v:Sx)(V:List ZN)(pd F W:List Int) :An:=⟨v.bk,v.ep,V,v.D,v.P,v.B,v.ac,pd,F,W,v.mn,v.tn,v.un⟩
theorem Sx.row_len (v:Sx) :v.row.length=15:=rfl
theorem Sx.row_one (v:Sx) : ∀u ∈ v.row,u.oneCell'=true:=by
 intro u hu;simp only [Sx.row,ZU,Yg,or_false] at hu
 rcases hu with rfl | rfl | rfl | rfl | rfl | rfl | rfl | rfl | rfl | rfl | rfl | rfl | rfl | rfl | rfl <;> rfl
theorem PE (v:Sx) :(Yy v).all (·.oneCell')=true:=by
 refine ZK.2 (fun u hu=>Sx.row_one v u (by simpa [Yy] using hu))
theorem Lf:(Tryz.prog.info? 28).map (·.size)=some 15:=ZC
section
variable {w w':Zc} {S T:Nat->Prop} {v:Sx} {V:List ZN} {pd F W:List Int}
theorem vJ.below (h:vJ w S v V pd F W)(hb:Zp w.heap.size w w') :vJ w' S v V pd F W:= { h with vl:=h.vl.below hb,pl:=h.pl.below hb,fl:=h.fl.below hb,wl:=h.wl.below hb}
end
end
section
open Go Go.RowKit Go.Deep
def Hn (w:Zc)(base:Nat)(v:Zk)(l:List Int) :Prop:=w.ownsRow base 3 1 v l.length (l.map (ZI .i64))
theorem qI (n:Nat)(w:Zc)(hn:n<=20000) :Zv Zb 145 #[.slice none 0 0,.int .i64 n] w fun e w'=> ∃v,e= .returned v/\Hn w' w.heap.size v []/\Zp w.heap.size w w':=by
 have h1: ¬((n:Int)< 0):=Zf
 by_cases h0:n=0
 ·subst h0;go_enter func145,ntmps145;exact Zbi
 ·obtain ⟨i0,MH,BK,Rt,Ro⟩:=Bg;have Bx:(ZI .i64 0).cells.size=1:=rfl;have hold:(Builtin.firstCells i0.size 0 (.slice none 0 0)).run Zb w.drew= .ok ([] :List Zk).toArray w.drew:=run_firstCells_none w.drew i0.size 0 0 0;have SW:=growslice_fits (old:=0) (need:=n) (bytes:=8) Zf Zf;have hrz: ∀ty,(Builtin.append_ #[24,3] ty #[.slice none 0 0,.int .i64 (n:Int)]).run Zb w= .ok (.slice (some ⟨w.heap.size,0,none⟩) n (grownCap w n 0 3)) (w.drew.alloc (.cells (([] :List Zk).toArray++YM (ZI .i64 0).cells n++YM (ZI .i64 0).cells (grownCap w n 0 3 - n)) 3)):=fun ty=>by
   have h:=Lib.run_append_grow_zeros w 24 3 ty 3 i0 (.int .i64 0) .i64 .i64 underlying24 underlying3 MH BK none 0 0 [] hold n Zf Zf Zf Zf (by rw [Ro]; omega) (by rw [ZV,Ro]; exact SW);rw [ZV] at h;exact h
  have hG:=grownCap_ge w n 0 3;have hG2:=grownCap_le_maxLen w n 0 3 GU;obtain ⟨G,hGe⟩:=ZT (grownCap w n 0 3);rw [hGe] at hrz hG hG2;have hG63:G<=9223372036854775807:=by unfold X8 at hG2; omega
  have HO:Zl (∀X:Array Zk,X.size=G->Hn (w.alloc (.cells X 3)).drew w.heap.size (.slice (some ⟨w.heap.size,0,none⟩) 0 G) []):=Za fun X hX=>⟨rfl,.inr ⟨w.heap.size,G,X,rfl,Zh _,(Zt w _ _).drew,Qu _,hG2,by rw [hX,Nat.mul_one],rfl⟩⟩
  have HB:Zl (∀X:Array Zk,Zp w.heap.size w (w.alloc (.cells X 3)).drew):=Za fun X=>((Zo _ _).alloc (Zh _) _).drew
  have h3:wrap64 (n:Int)=(n:Int):=by unfold wrap64; omega
  have h4:(n:Int)>0:=Zf;clear hGe hG2 SW hold Bx MH BK Rt Ro h0;go_enter func145,ntmps145;go_wp2_with (at_builtin; refine Lib.wpList_append_run _ rfl _ _ _ _ rfl _ _ rfl rfl _ _ (hrz _) ?_)
  all_goals
   go_ret;exact ⟨_,rfl,HO.o _ (by simp [size_zeroCells]; omega),HB.o _⟩
theorem ay {ops:Array Oper}{rest:List Oper}{o:Oper}{c:Act}{w:Zc}{Q:Exit->Act->Zc->Prop}{base cap m:Nat}{v:Zk}{l M:List Int}{p:Option Addr}{S:Nat->Prop}(H:Hn w base v l)(hM:Qf w S p M)(hm:M.length=m)
  (BJ:o.guard=none) (s x:YN) (ho:o.op= .call { callee:= .builtin .append,args:= #[s,x],argTypes:= #[24,24]}) (hs:c.eval s=v) (hx:c.eval x= .slice p m cap) (mx:l.length+m<=4000000) (SO:base<=w.heap.size)
  (K: ∀v' w',Hn w' base v' (l++M)->w.grownBy w' v.ownBlock->YQ Zb ops Q rest (c.put o.dst v') w') :YQ Zb ops Q (o::rest) c w:=by
 obtain ⟨i8,hi8,hz8,hs8,hb8⟩:=Bg;subst hm;refine XU w BJ s x 24 ho base 3 i8 _ 1 8 underlying24 hi8 hz8 hs8 hb8 rfl Zf v l.length _ hs H p M.length cap (M.map (ZI .i64)) hx ZE (fun h0=>?_) (fun u hu=>?_) GU Zf SO fun v' w' h1 h2 h3=>K v' w' ?_ h2
 ·obtain ⟨b,off,e,_,_,hc⟩:=hM h0;refine ⟨_,e,fun j u hu=>?_⟩;rw [List.getElem?_map] at hu;have hj:j < M.length:=by
   rcases Nat.lt_or_ge j M.length with h | h
   ·exact h
   ·rw [List.getElem?_eq_none h] at hu; cases hu
  rw [Zg hj] at hu;injection hu with hu;rw [add_plain,hc j hj,<-hu,List.getD_eq_getElem?_getD,Zg hj];rfl
 ·obtain ⟨i,_,rfl⟩:=List.mem_map.1 hu;rfl
 ·unfold Hn;rw [ZF,Xv];exact h1
theorem Hn.grown {w w1 w2:Zc}{v:Zk}{l:List Int}{n0:Nat}(h:Hn w1 n0 v l)(hb:Zp n0 w w1)(hs:n0<=w1.heap.size)(hg:w1.grownBy w2 v.ownBlock) :Zp n0 w w2:=hb.grown hg hs (fun j hj=>by
 rcases h.2 with ⟨h1,_⟩ | ⟨g,GP,cur,h1,h2,_⟩
 ·rw [h1] at hj; cases hj
 ·rw [h1] at hj; simp [Y7] at hj; omega)
theorem eP (S:Nat->Prop)(fa wa:Option Addr)(fn fc wn wc g:Nat)(F W:List Int)(w:Zc)(hF:Qf w S fa F)(hW:Qf w S wa W)(hf:F.length=fn)(hw:W.length=wn)(bf:fn<=10000)(bw:wn<=10000)
  (h0:w.cell? ⟨g,0,none⟩=some (.slice fa fn fc)) (h1:w.cell? ⟨g,1,none⟩=some (.slice wa wn wc)) :
  Zv Zb 106 #[.slice (some ⟨g,0,none⟩) 2 2] w fun e w'=> ∃v,e= .returned v/\Hn w' w.heap.size v (F++W)/\Zp w.heap.size w w':=by
 have HF:=Za hF;have HW:=Za hW;have HL:=Za (Zn hf hw);have G0:=Za (Zn (Ga h0) (Zn h0 h1));have HG:Zl (∀W,Zv Zb 145 #[.slice none 0 0,.int .i64 ((fn:Int)+(wn:Int))] W fun e w'=> ∃v,e= .returned v/\Hn w' W.heap.size v []/\Zp W.heap.size W w'):=Za (fun W=>by
  have:=qI (fn+wn) W Zf;rwa [show (((fn+wn:Nat)) :Int)=(fn:Int)+(wn:Int) by omega] at this)
 have bO: ¬(fn:Int)< 0:=Zf;have fJ: ¬((fn+wn:Nat) :Int)< 0:=Zf;have hn3: ¬(fn:Int)+(wn:Int)< 0:=Zf;have NI:wrap64 ((fn:Int)+(wn:Int))=((fn+wn:Nat) :Int):=by unfold wrap64; omega
 have Na:wrap64 (fn:Int)=(fn:Int):=by unfold wrap64; omega
 clear hF hW hf hw;go_enter func106,ntmps106;go_wp2_with fail;refine jl ?_;go_wp2_with fail;rw [Y4];go_wp2_with fail;rw [Y4];go_wp2_with fail;refine (HG.o w).mono ?_;rintro e w1 ⟨v0,rfl,ho,hb⟩;have O1:=Za ho;have B1:=Za hb;have c0:=(hb.cell (p:=⟨g,0,none⟩) G0.o.1).trans h0;have c1:=(hb.cell (p:=⟨g,1,none⟩) G0.o.1).trans h1;have HF1:=Za (HF.o.below hb);clear ho hb h0 h1 HG;obtain ⟨n0,Hi⟩:=ZT (w.heap.size);rw [Hi] at O1 B1;have dY:=Za Hi;clear Hi;go_wp2_with fail;refine jl ?_;go_wp2_with (first | (refine ay O1.o HF1.o HL.o.1 rfl _ _ rfl rfl rfl Xl (by rw [<-dY.o]; exact B1.o.size) ?_; intro v1 w2 ho hg));have O2:Zl (Hn w2 n0 v1 F):=Za ho;have B2:Zl (Zp n0 w w2):=Za (O1.o.grown B1.o (by rw [<-dY.o]; exact B1.o.size) hg);have HW2:Zl (Qf w2 S wa W):=Za (HW.o.below (by rw [dY.o]; exact B2.o));have c1:w2.cell? ⟨g,1,none⟩=some (.slice wa wn wc):=(B2.o.cell (p:=⟨g,1,none⟩) (by rw [<-dY.o]; exact G0.o.1)).trans G0.o.2.2;clear ho hg O1 HF1 c0 B1;rw [Y4];go_wp2_with (first | (refine ay O2.o HW2.o HL.o.2 rfl _ _ rfl rfl rfl (by have:=HL.o; omega) (by rw [<-dY.o]; exact B2.o.size) ?_; intro v2 w3 ho hg));have O3:=Za ho;have B3:Zl (Zp n0 w w3):=Za (O2.o.grown B2.o (by rw [<-dY.o]; exact B2.o.size) hg);clear ho hg O2 HW2 B2 c1;rw [Y4];go_wp2_with fail;go_ret;exact ⟨_,rfl,by rw [dY.o]; exact O3.o,by rw [dY.o]; exact B3.o⟩
end
end Go.Proofs.YtobgbcdgffgdhaaGreat
