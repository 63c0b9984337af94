/- Part 36 of 58: L08Due L08DueB. -/
import Derived.Test.YtianiiijaopdpaaGreatZu00
import Derived.Test.YtianiiijaopdpaaGreatZu25
import Derived.Test.YtianiiijaopdpaaGreatZu30
namespace Go.Proofs.YtianiiijaopdpaaGreat
set_option linter.unusedVariables false
set_option linter.unusedSimpArgs false
set_option maxRecDepth 100000
set_option maxHeartbeats 8000000
open _root_.Go.RowKit.Below renaming heap_setCell → Xu
open _root_.Go.Proofs.YtianiiijaopdpaaGreat.Kept renaming refl → ZM, setCells → QC
open _root_.Go.Lib renaming hid → Za
open _root_.List renaming filter_append → Jp, length_append → ZN
open _root_.Nat renaming zero_add → Yb
open _root_.Go.Proofs.Tryz renaming prog → Zb, underlying206 → GG
open _root_.Go renaming Value → Zo, World → Zc
open _root_.Go.Value renaming int → ZX
open _root_.Go.World renaming ownsRow_nil → Xj, setRow_alloc_new → Zu
section
open Go Go.RowKit Go.Deep
section
variable {ops:Array Oper} {rest:List Oper} {o:Oper} {a:Act} {w:Zc} {Q:Exit→Act→Zc→Prop}
theorem WK (BU:o.guard=none)(x:Operand)(ho:o.op= .buildSlice 206 1 #[(0,x)])(v:QO)(hx:a.eval x= .agg (JF v))
  (h:wpList Zb ops Q rest (a.put o.dst (.slice (some ⟨w.heap.size,0,none⟩) 1 1)) (w.alloc (.cells (JF v) 315))) :wpList Zb ops Q (o::rest) a w:=
 wpList_plain BU fun _ hK=>Jq 206 315 x _ (.int .i64 v.1) (.int .i64 v.2) ho hx GG Af (hK _ _ h)
theorem NX (BU:o.guard=none)(s x:Operand)(ho:o.op= .call { callee:= .builtin .append,args:= #[s,x],argTypes:= #[206,206]})
  (g r cp q:Nat) (v:QO) (hs:a.eval s= .slice (some ⟨g,0,none⟩) r cp) (hx:a.eval x= .slice (some ⟨q,0,none⟩) 1 1) (hq: ∀j u,(BH v)[j]?=some u→w.cell? ((⟨q,0,none⟩ :Addr).add j)=some u) (hr:r+1≤cp) (ht:w.there g (r*2) 2)
  (h:wpList Zb ops Q rest (a.put o.dst (.slice (some ⟨g,0,none⟩) (r+1) cp)) (w.setCells g (r*2) (BH v))) :wpList Zb ops Q (o::rest) a w:=by
 refine wpList_plain BU fun K hK=>?_
 obtain ⟨i,hi,hz,M4,Hu⟩:=CD;have Bd:=run_append_room_cells (P:=Zb) w 206 o.type 315 i GG hi g 0 r cp ⟨q,0,none⟩ 1 1 (BH v) (by rw [M4]; rfl) hq (MN v) hr
  (fun j hj=>by rw [M4,Yb]; exact (ht j hj).1) (fun j hj=>by rw [M4,Yb]; exact (ht j hj).2)
 rw [M4,Yb] at Bd;unfold Oper.wp;simp [execOp,ho,resolve,invoke,builtin,hs,hx,Bd,Result.andThen];exact hK _ _ h
end
def U4 (ep:Int)(l:List QO) :List QO:=l.filter fun e=>!(e.1==ep)
def Vb (ep:Int)(l:List QO) :List Int:=(l.filter fun e=>e.1==ep).map (·.2)
theorem LR (ep:Int)(l:List QO)(x:QO) :U4 ep (l++[x])=if x.1=ep then U4 ep l else U4 ep l++[x]:=by
 unfold U4;rw [Jp]
 by_cases h:x.1=ep <;> simp [h]
theorem Ah (ep:Int)(l:List QO)(x:QO) :Vb ep (l++[x])=if x.1=ep then Vb ep l++[x.2] else Vb ep l:=by
 unfold Vb;rw [Jp,List.map_append]
 by_cases h:x.1=ep <;> simp [h]
theorem pM (ep:Int)(l:List QO) :(Vb ep l).length≤l.length:=by unfold Vb; rw [List.length_map]; exact List.length_filter_le _ _
theorem aO {l:List QO}{k:Nat}{v:QO}(h:l[k]?=some v) :l.take (k+1)=l.take k++[v]:=by
 rw [List.take_add_one,h];rfl
structure iC (w0 w:Zc)(g cp q k r:Nat)(ep:Int)(l:List QO)(v:Zo) :Prop where
 len:(U4 ep (l.take k)).length=r
 row:P4 w g cp q (U4 ep (l.take k)++l.drop r)
 out:w.ownsRow w0.heap.size 3 1 v (Vb ep (l.take k)).length ((Vb ep (l.take k)).map (ZX .i64))
 kept:Kept (fun i=>i=g) w0 w
def M9 (w:Zc)(b B n j:Nat)(ss:List Zo)(s:Zo)(L:List QO)(ep:Int)(e:Ending)(w':Zc) :Prop:=
 ∃v s',e= .returned v∧w'.ownsRow w.heap.size 3 1 v (Vb ep L).length ((Vb ep L).map (ZX .i64))∧KV w' b B n (ss.set j s') (U4 ep L)∧s'.ownBlock=s.ownBlock∧Kept (fun i=>i=B∨s.ownBlock=some i) w w'
theorem aM {w w3:Zc}{b B n j:Nat}{s s':Zo}{ss:List Zo}{L:List QO}{ep:Int}(h:KV w b B n ss L)(hs:ss[j]?=some s)(hj:ep%(n:Int)=(j:Int))
  (hk:Kept (fun i=>s.ownBlock=some i) w w3) (ho:w3.ownsRow 0 315 2 s' (U4 ep (bk n L j)).length (X6 (U4 ep (bk n L j)))) (hn:s'.ownBlock=s.ownBlock) :
  KV (w3.setCell ⟨B,j,none⟩ s') b B n (ss.set j s') (U4 ep L):=by
 have Fw:=h.not hs;have vM:w3.heap[B]?=w.heap[B]?:=hk.block B h.bks.lt Fw.2;have e1:bk n (U4 ep L) j=U4 ep (bk n L j):=WV n L j _;refine h.upd hs ?_ ?_ (fun i t hij ht q hq=>?_) ?_ (fun i hi=>?_) (.inl hn) (fun x hx=>h.ok x (List.mem_filter.1 hx).1)
 ·exact ZaP
 ·exact Zaf
 ·exact Zgy
 ·rw [e1];exact UL (w:=w3) ho (fun q hq=>Xu _ _ _ _ (fun e=>Fw.2 (by rw [←hn,hq,e])))
 ·rw [show bk n (U4 ep L) i=U4 ep (bk n L i) from WV n L i _];exact oQ hj hi L
theorem jc {n j:Nat}{ep:Int}(h:ep%(n:Int)=(j:Int))(L:List QO) :Vb ep (bk n L j)=Vb ep L:=by
 unfold Vb;rw [oO h]
theorem vw (b B n j g cp:Nat)(ss:List Zo)(L:List QO)(ep:Int)(w:Zc)(h:KV w b B n ss L)(hs:ss[j]?=some (.slice (some ⟨g,0,none⟩) (bk n L j).length cp))(h0:0≤ep)(h1:ep≤1099511627776)(hj:ep%(n:Int)=(j:Int))(hL:L.length≤100000) :
  Calls Zb 256 #[.pointer (some ⟨b,0,none⟩),.int .i64 ep] w (M9 w b B n j ss (.slice (some ⟨g,0,none⟩) (bk n L j).length cp) L ep):=by
 have Da:j < n:=by exact th
 have VZ:=h.row j _ hs;have hq:=Cs n L j;obtain ⟨x0,x1⟩:=h.cells hs;have Fw:=h.not hs;have qa:=(Lh VZ).2.1;have qc:=(Lh VZ).2.2.1;unfold maxLen at qc;have HN:=Za (ML b n j n (some ⟨B,0,none⟩) ep w x0 h.pos h.top h0 h1 hj);have hgb:g≠b:=fun e=>Fw.1 (by rw [e]; rfl)
 have hgB:g≠B:=fun e=>Fw.2 (by rw [e]; rfl)
 have hBl:=h.bks.lt;have HH:=Za h;have HS:=Za hs;have HJ:=Za hj;obtain ⟨l,hl⟩ : ∃l,bk n L j=l:=⟨_,rfl⟩;rw [hl] at VZ hq qa x1 HS ⊢;obtain ⟨q,hqe⟩ : ∃q,l.length=q:=⟨_,rfl⟩;rw [hqe] at VZ hq qa x1 HS ⊢;have H0:Hid (iC w w g cp q 0 0 ep l (.slice none 0 0)):=Za ⟨rfl,by simpa [U4] using Lh VZ,Xj _ _ _ _,ZM _ _⟩;have HLL:=Za (And.intro hl hqe);have hj1: ¬(j:Int)< 0:=by omega
 have zI: ¬(n:Int)≤(j:Int):=by omega
 have hj3:(j:Int)< (n:Int):=by omega
 have hn4:n≤4096:=h.top;have X0:=Za x0;have X1:=Za x1;clear h hs VZ Fw hj hl hqe;obtain ⟨i0,Oe,BM,Pg,Ai⟩:=LI;go_enter Tryz.func256,Tryz.ntmps256;go_wp2_with fail;refine HN.out.mono ?_;rintro e w' ⟨rfl,rfl⟩;clear HN;go_wp2_with fail;go_loopw [7,8,35] (fun s7 s8 s35 wr=> ∃k r:Nat,r≤k∧k≤q∧s35= .int .i64 k∧s8= .slice (some ⟨g,0,none⟩) r cp∧Hid (iC w wr g cp q k r ep l s7)) (fun _ _ s35 _=>q -(intOf s35).toNat)
 case atStart=>exact ⟨0,0,by omega,by omega,rfl,rfl,H0⟩
 case round=>
  clear H0 x0 x1;obtain ⟨k,r,hrk,hk,rfl,rfl,HD⟩:=hrel
  by_cases XJ:k < q
  ·obtain ⟨x,hx⟩ : ∃x,l[k]?=some x:=⟨_,List.getElem?_eq_getElem (by have:=HLL.out.2; omega)⟩;have hd:=HD.out;have HRX:Hid (wr.rangeAt g (k*2) (BH x)):=Za (hd.row.at (by
    rw [List.getElem?_append_right (by have:=hd.len; omega),hd.len,List.getElem?_drop,show r+(k - r)=k by omega];exact hx))
   have HE:Hid (Zy (wr.alloc (.cells (JF x) 315)) wr.heap.size 315 (JF x)):=Za (Zy.new _ _ _);have c0:(wr.alloc (.cells (JF x) 315)).cell? ⟨wr.heap.size,0,none⟩=some (.int .i64 x.1):=HE.out.cell 0;have c1:(wr.alloc (.cells (JF x) 315)).cell? ⟨wr.heap.size,1,none⟩=some (.int .i64 x.2):=HE.out.cell 1;have HX:=Za hx;have Rd: ¬(k:Int)< 0:=by omega
   have lQ: ¬(q:Int)≤(k:Int):=by omega
   have nN:(k:Int)< (q:Int):=by omega
   have zE:=hd.row.lt;have hws:=hd.kept.size;have br:=pM ep (l.take k);have hgo2:(l.take k).length≤k:=by rw [List.length_take]; omega
   clear hd hx
   by_cases heq:x.1=ep
   ·have EO:(x.1==ep)=true:=by simpa using heq
    have HEQ:=Za heq;clear heq;go_wp2_with (first | (refine BP rfl 315 _ rfl g (k*2) rfl x _ HRX.out Tryz.underlying315 rfl Hx ?_) | (refine wpList_store_row rfl _ _ _ rfl wr.heap.size (JF x) rfl rfl 315 _ (heap_alloc_new wr _) Hx rfl (Sb x) ?_; rw [Zu]) | (at_builtin; (refine QL _ rfl (.tmp 43) (.tmp 46) 47 rfl w.heap.size 3 i0 _ 1 8 Tryz.underlying47 Oe BM Pg Ai rfl Nat.one_pos u7 (Vb ep (l.take k)).length _ rfl ((HD.out.out.alloc _).alloc _) (some ⟨wr.heap.size+1,0,none⟩) 1 1 [.int .i64 x.2] rfl rfl (fun _=>⟨_,rfl,by have:=cell_one_new (wr.alloc (.cells (JF x) 315)) (.int .i64 x.2) 3; rwa [World.size_alloc] at this⟩) (by simp [Value.oneCell']) US Zp Vq ?_; intro v1 w1 ho hg hv1)));have hZ:iC w w1 g cp q (k+1) r ep l v1:=by
     have hd:=HD.out;have et:=aO HX.out;have k1:Kept (fun i=>u7.ownBlock=some i) wr w1:=((ZM _ wr).alloc _).alloc _ |>.trans (Kept.of_grown hg (S:=fun i=>u7.ownBlock=some i) (fun i hi=>hi.symm)) (fun _ _ h=>h);have Kt: ∀i,u7.ownBlock=some i→w.heap.size≤i:=fun i hi=>(hd.out.lt i hi).1
     have hgw:g < w.heap.size:=by
      have:=HH.out.row j _ HS.out;exact (this.lt g rfl).2
     refine ⟨by rw [et,LR,if_pos HEQ.out]; exact hd.len,?_,?_,?_⟩
     ·rw [et,LR,if_pos HEQ.out];exact hd.row.same (k1.block g hd.row.lt (fun h=>by have:=Kt g h; omega))
     ·rw [et,Ah,if_pos HEQ.out];simpa using ho
     ·exact hd.kept.trans (k1.more (T:=fun i=>w.heap.size≤i) (fun i _ h=>Kt i h)) (fun i hi h=>by omega)
    have HZ:=Za hZ;clear ho hg hv1 hZ HD HRX HE c0 c1;go_wp2;go_roundw
    case rel=>exact ⟨k+1,r,by omega,by omega,by go_num,rfl,HZ⟩
    case measure=>exact Uz
   ·have EO:(x.1==ep)=false:=by simpa using heq
    have HEQ:=Za heq;have HT:Hid (((wr.alloc (.cells (JF x) 315)).alloc (.cells (JF x) 315)).there g (r*2) 2∧iC w (((wr.alloc (.cells (JF x) 315)).alloc (.cells (JF x) 315)).setCells g (r*2) (BH x)) g cp q (k+1) (r+1) ep l u7):=Za (by
     have hd:=HD.out;have et:=aO HX.out;have hB:Below wr.heap.size wr ((wr.alloc (.cells (JF x) 315)).alloc (.cells (JF x) 315)):=((Below.refl _ _).alloc (Nat.le_refl _) _).alloc ZO _;have zP:=hd.row.below hB;have hrl:r < l.length:=by have:=HLL.out.2; omega
     have hgw:g < w.heap.size:=by
      have:=HH.out.row j _ HS.out;exact (this.lt g rfl).2
     rw [List.drop_eq_getElem_cons hrl] at zP;obtain ⟨t1,t2⟩:=zP.set hd.len x;refine ⟨t2,⟨by rw [et,LR,if_neg HEQ.out,ZN,hd.len]; rfl,?_,?_,?_⟩⟩
     ·rw [et,LR,if_neg HEQ.out];simpa using t1
     ·rw [et,Ah,if_neg HEQ.out];refine UL ((hd.out.alloc (.cells (JF x) 315)).alloc (.cells (JF x) 315)) (fun i hi=>?_);have EB:=(hd.out.lt i hi).1;have kk:Kept (fun i=>i=g) ((wr.alloc (.cells (JF x) 315)).alloc (.cells (JF x) 315)) (((wr.alloc (.cells (JF x) 315)).alloc (.cells (JF x) 315)).setCells g (r*2) (BH x)):=QC _ _ _ (ZM _ _) (.inl rfl);exact kk.block i (by have:=(hd.out.lt i hi).2; simp; omega) (fun e=>by have e:i=g:=e; omega)
     ·exact QC _ _ _ ((hd.kept.alloc _).alloc _) (.inl rfl))
    have hq2:r+1≤cp:=by omega
    clear heq;go_wp2_with (first | (refine BP rfl 315 _ rfl g (k*2) rfl x _ HRX.out Tryz.underlying315 rfl Hx ?_) | (refine wpList_store_row rfl _ _ _ rfl wr.heap.size (JF x) rfl rfl 315 _ (heap_alloc_new wr _) Hx rfl (Sb x) ?_; rw [Zu]) | (refine BP rfl 315 _ rfl wr.heap.size 0 rfl x _ HE.out.range Tryz.underlying315 rfl Hx ?_) | (refine WK rfl _ rfl x rfl ?_) | (at_builtin; refine NX rfl (.tmp 48) (.tmp 50) rfl g r cp (wr.alloc (.cells (JF x) 315)).heap.size x rfl rfl (jw (wr.alloc (.cells (JF x) 315)) x 315) hq2 HT.out.1 ?_));go_roundw
    case rel=>exact ⟨k+1,r+1,by omega,by omega,by go_num,rfl,Za HT.out.2⟩
    case measure=>exact Uz
  ·obtain rfl:k=q:=by omega
   have hd:=HD.out;have e1:=HLL.out;have bw:Kept (fun i=>(Value.slice (some ⟨g,0,none⟩) k cp).ownBlock=some i) w wr:=hd.kept.more (fun i _ h=>by rw [h]; rfl);have y0:=hd.kept.cell (p:=⟨b,0,none⟩) (fun e=>hgb e.symm) X0.out;have y1:=hd.kept.cell (p:=⟨B,j,none⟩) (fun e=>hgB e.symm) X1.out;have z1:wr.frozen? ⟨B,j,none⟩=false:=by
    rw [hd.kept.frozen (p:=⟨B,j,none⟩) (fun e=>hgB e.symm) hBl];exact HH.out.bks.frozen j
   have HP:Hid (M9 w b B n j ss (.slice (some ⟨g,0,none⟩) k cp) L ep (.returned u7) (wr.setCell ⟨B,j,none⟩ (.slice (some ⟨g,0,none⟩) r cp))):=Za (by
    have ho:=hd.out;have hlen:=hd.len;have hrw:=hd.row;rw [List.take_of_length_le Zp] at ho hlen hrw;have tS:wr.ownsRow 0 315 2 (.slice (some ⟨g,0,none⟩) r cp) (U4 ep (bk n L j)).length (X6 (U4 ep (bk n L j))):=by
     rw [e1.1,hlen];obtain ⟨r1,r2,r3,rest,r4,r5⟩:=hrw;refine P4.owns (g:=g) (w:=wr) (cap:=cp) ⟨hlen,by omega,r3,X6 (l.drop r)++rest,?_,?_⟩ (Nat.zero_le _)
     ·rw [ZN,Uo,r4,List.length_drop,e1.2];omega
     ·rw [←List.append_assoc,←Hq];exact r5
    refine ⟨u7,.slice (some ⟨g,0,none⟩) r cp,rfl,?_,aM HH.out HS.out HJ.out bw tS rfl,rfl,?_⟩
    ·rw [←e1.1,jc HJ.out] at ho;refine UL ho (fun i hi=>Xu _ _ _ _ (fun e=>?_));have e:i=B:=e;have:=(ho.lt i hi).1;omega
    ·exact (bw.more (fun _ _ h=> .inr h)).setCell (.inl (.inl rfl)) _)
   clear hd e1 bw HD;go_wp2;go_ret;exact HP.out
end
section
open Go Go.RowKit Go.Deep
theorem o7 (b B n j:Nat)(ss:List Zo)(L:List QO)(ep:Int)(w:Zc)(h:KV w b B n ss L)(hs:ss[j]?=some (.slice none 0 0))(h0:0≤ep)(h1:ep≤1099511627776)(hj:ep%(n:Int)=(j:Int))(hl:bk n L j=[]) :
  Calls Zb 256 #[.pointer (some ⟨b,0,none⟩),.int .i64 ep] w (M9 w b B n j ss (.slice none 0 0) L ep):=by
 have Da:j < n:=by exact th
 obtain ⟨x0,x1⟩:=h.cells hs;have HN:=Za (ML b n j n (some ⟨B,0,none⟩) ep w x0 h.pos h.top h0 h1 hj);have hj1: ¬(j:Int)< 0:=by omega
 have zI: ¬(n:Int)≤(j:Int):=by omega
 have hj3:(j:Int)< (n:Int):=by omega
 have hn4:n≤4096:=h.top;have z1:w.frozen? ⟨B,j,none⟩=false:=h.bks.frozen j;have HP:Hid (M9 w b B n j ss (.slice none 0 0) L ep (.returned (.slice none 0 0)) (w.setCell ⟨B,j,none⟩ (.slice none 0 0))):=Za (by
  have hg:Vb ep L=[]:=by rw [←jc hj,hl]; rfl
  refine ⟨_,.slice none 0 0,rfl,?_,aM h hs hj (ZM _ _) ?_ rfl,rfl,(ZM _ _).setCell (.inl (.inl rfl)) _⟩
  ·rw [hg]; exact Xj _ _ _ _
  ·rw [hl]; exact Xj _ _ _ _)
 clear h hs hj hl;go_enter Tryz.func256,Tryz.ntmps256;go_wp2_with fail;refine HN.out.mono ?_;rintro e w' ⟨rfl,rfl⟩;clear HN;go_wp2_with fail;go_loopw [7,8,35] (fun s7 s8 s35 wr=>s7= .slice none 0 0∧s8= .slice none 0 0∧s35= .int .i64 0∧w=wr) (fun _ _ _ _=>0)
 case atStart=>exact ⟨rfl,rfl,rfl,rfl⟩
 case round=>
  obtain ⟨rfl,rfl,rfl,rfl⟩:=hrel;go_wp2;go_ret;exact HP.out
theorem vu (b n:Nat)(S:Nat→Prop)(L:List QO)(ep:Int)(w:Zc)(h:GW w b S n L)(h0:0≤ep)(h1:ep≤1099511627776)(hL:L.length≤100000) :
  Calls Zb 256 #[.pointer (some ⟨b,0,none⟩),.int .i64 ep] w fun e w'=> ∃v S',e= .returned v∧w'.ownsRow w.heap.size 3 1 v (Vb ep L).length ((Vb ep L).map (ZX .i64))∧GW w' b S' n (U4 ep L)∧(∀i,S' i→S i)∧Kept S w w':=by
 obtain ⟨B,ss,hp,hS⟩:=h;obtain ⟨j,hj⟩ : ∃j:Nat,ep%(n:Int)=(j:Int):=⟨(ep%(n:Int)).toNat,by have:=Int.emod_nonneg ep (b:=(n:Int)) IT; omega⟩;have Da:j < n:=by exact ZaC
 obtain ⟨s,hs⟩:=hp.get Da;have key:Calls Zb 256 #[.pointer (some ⟨b,0,none⟩),.int .i64 ep] w (M9 w b B n j ss s L ep):=by
  have hr:=hp.row j s hs
  rcases hr.2 with ⟨h1,h2⟩ | ⟨g,cp,cur,h1,_⟩
  ·subst h1;exact o7 b B n j ss L ep w hp hs h0 ‹_› hj (List.eq_nil_of_length_eq_zero h2)
  ·subst h1;exact vw b B n j g cp ss L ep w hp hs h0 ‹_› hj hL
 refine key.mono ?_;rintro e w' ⟨v,s',he,ho,h2,h3,h4⟩;refine ⟨v,fun i=>i=b∨i=B∨ ∃s:Zo,s ∈ ss.set j s'∧s.ownBlock=some i,he,ho,⟨B,_,h2,fun _=>Iff.rfl⟩,?_,h4.more (fun i _ hi=>?_)⟩
 ·rintro i (rfl | rfl | ⟨t,ht,hq⟩)
  ·exact (hS _).2 (.inl rfl)
  ·exact (hS _).2 (.inr (.inl rfl))
  ·rcases List.mem_or_eq_of_mem_set ht with ht | rfl
   ·exact (hS i).2 (.inr (.inr ⟨t,ht,hq⟩))
   ·exact (hS i).2 (.inr (.inr ⟨s,List.mem_of_getElem? hs,by rw [←h3]; exact hq⟩))
 ·exact ZgY
end
end Go.Proofs.YtianiiijaopdpaaGreat
