/- Part 12 of 29: L08Due L14Now L08DueB L21Rc L21Make L17Req L17Apply L17Pay L17Rec L17Collect L17Step L03CheckC L21Equal. -/
import Derived.Test.YtianiiijaopdpaaGreatZy00
import Derived.Test.YtianiiijaopdpaaGreatZy11
namespace Go.Proofs.YtianiiijaopdpaaGreat
set_option linter.unusedVariables false
set_option linter.unusedSimpArgs false
set_option maxRecDepth 100000
set_option maxHeartbeats 8000000
open _root_.And renaming intro → Zh
open _root_.Go.RowKit renaming Below → Zs
open _root_.Go.RowKit.Below renaming heap_setCell → Xs, refl → Zp
open _root_.Go.Proofs.YtianiiijaopdpaaGreat.Blk renaming ne_ → JI, new → Zv
open _root_.Go renaming Calls → Zj, Value → Zl, World → Zc, below_setRow → Xv, bodyPost_ret → ZL, heap_alloc_new → ZG, results_cell_row → ZO, rounds_succ → YT, setRow_heap → Z6, wpList → YY, wpList_load_row → Zn, wpList_store_row → Zo
open _root_.Go.Ending renaming returned → XR
open _root_.Go.Instr renaming index → Xi
open _root_.Go.IntKind renaming signed → Up
open _root_.Go.Proofs.YtianiiijaopdpaaGreat.Kept renaming of_below → YP, of_grown → Xu, refl → ZH, setCells → QF
open _root_.Go.Lib renaming hid → Za
open _root_.List renaming filter_append → Ju, getElem?_eq_getElem → Zf, getElem?_eq_some_iff → Zi, length_append → ZE, length_take → Xl, mem_of_getElem? → ZB, take_add_one → YR
open _root_.Nat renaming le_refl → Zg, zero_add → ZX, zero_le → XL
open _root_.Option.some renaming injEq → Qk
open _root_.Go.Proofs.YtianiiijaopdpaaGreat.Py renaming row → VS
open _root_.Go.Proofs.Tryz renaming prog → Zb, underlying206 → GI, underlying24 → ZC, underlying42 → Yb, underlying63 → Zr, underlying75 → Z3
open _root_.Go.Value renaming int → ZR, ownBlock → Y4, slice → Yj
open _root_.Go.World.ownsRow renaming alloc → QI
open _root_.Go.World renaming ownsRow_nil → Xr, setRow_alloc_new → Zu
theorem Rm {G:Prop}(h:G:=by rw [←HX.out]; rfl) :G:=h
theorem NW {G:Prop}(h:G:=by simpa using hs) :G:=h
theorem ZJ {G:Prop}(h:G:=by have:=HN.out; omega) :G:=h
theorem ZfR {G:Prop} (h:G:=by
  refine Bn ?_;refine ⟨by kernel_rfl,?_⟩;refine LY ?_;go_wp2;refine GM ?_;go_wp2_with fail;go_meet;exact ⟨_,rfl,rfl,Z⟩) :G:=h
theorem ZfX {G:Prop} (h:G:=by
  clear hx;go_enter Tryz.func203,Tryz.ntmps203;go_upto_region 1 with (fail);generalize w.alloc (.cells (ZA r) 75)=W at*;have x0:W.cell? ⟨w.heap.size,0,none⟩=some (.int .i64 r.ix):=HB.out.1.cell 0;go_wp2;go_ret;exact ⟨JY E.out.symm,HB.out.2⟩) :G:=h
theorem zP {G:Prop} (h:G:=by
  go_enter Tryz.func327,Tryz.ntmps327;go_wp2;go_ret2;exact ⟨rfl,rfl⟩) :G:=h
section
open Go Go.RowKit Go.Deep
section
variable {ops:Array Oper} {rest:List Oper} {o:Oper} {a:Act} {w:Zc} {Q:Exit→Act→Zc→Prop}
theorem Ws (DV:o.guard=none)(x:Operand)(ho:o.op= .buildSlice 206 1 #[(0,x)])(v:QT)(hx:a.eval x= .agg (JO v))
  (h:YY Zb ops Q rest (a.put o.dst (.slice (some ⟨w.heap.size,0,none⟩) 1 1)) (w.alloc (.cells (JO v) 315))) :YY Zb ops Q (o::rest) a w:=
 wpList_plain DV fun _ hK=>Jy 206 315 x _ (.int .i64 v.1) (.int .i64 v.2) ho hx GI WQ (hK _ _ h)
theorem NQ (DV:o.guard=none)(s x:Operand)(ho:o.op= .call { callee:= .builtin .append,args:= #[s,x],argTypes:= #[206,206]})
  (g r cp q:Nat) (v:QT) (hs:a.eval s= .slice (some ⟨g,0,none⟩) r cp) (hx:a.eval x= .slice (some ⟨q,0,none⟩) 1 1) (hq: ∀j u,(BI v)[j]?=some u→w.cell? ((⟨q,0,none⟩ :Addr).add j)=some u) (hr:r+1≤cp) (ht:w.there g (r*2) 2)
  (h:YY Zb ops Q rest (a.put o.dst (.slice (some ⟨g,0,none⟩) (r+1) cp)) (w.setCells g (r*2) (BI v))) :YY Zb ops Q (o::rest) a w:=by
 refine wpList_plain DV fun K hK=>?_
 obtain ⟨i,hi,hz,mX,LJ⟩:=Ck;have Be:=run_append_room_cells (P:=Zb) w 206 o.type 315 i GI hi g 0 r cp ⟨q,0,none⟩ 1 1 (BI v) (by rw [mX]; rfl) hq (ML v) hr
  (fun j hj=>by rw [mX,ZX]; exact (ht j hj).1) (fun j hj=>by rw [mX,ZX]; exact (ht j hj).2)
 rw [mX,ZX] at Be;unfold Oper.wp;simp [execOp,ho,resolve,invoke,builtin,hs,hx,Be,Result.andThen];exact hK _ _ h
end
def Gf (ep:Int)(l:List QT) :List QT:=l.filter fun e=>!(e.1==ep)
def Vq (ep:Int)(l:List QT) :List Int:=(l.filter fun e=>e.1==ep).map (·.2)
theorem LV (ep:Int)(l:List QT)(x:QT) :Gf ep (l++[x])=if x.1=ep then Gf ep l else Gf ep l++[x]:=by
 unfold Gf;rw [Ju]
 by_cases h:x.1=ep <;> simp [h]
theorem WS (ep:Int)(l:List QT)(x:QT) :Vq ep (l++[x])=if x.1=ep then Vq ep l++[x.2] else Vq ep l:=by
 unfold Vq;rw [Ju,List.map_append]
 by_cases h:x.1=ep <;> simp [h]
theorem oV (ep:Int)(l:List QT) :(Vq ep l).length≤l.length:=by unfold Vq; rw [List.length_map]; exact List.length_filter_le _ _
theorem ag {l:List QT}{k:Nat}{v:QT}(h:l[k]?=some v) :l.take (k+1)=l.take k++[v]:=by
 rw [YR,h];rfl
structure gM (w0 w:Zc)(g cp q k r:Nat)(ep:Int)(l:List QT)(v:Zl) :Prop where
 len:(Gf ep (l.take k)).length=r
 row:PY w g cp q (Gf ep (l.take k)++l.drop r)
 out:w.ownsRow w0.heap.size 3 1 v (Vq ep (l.take k)).length ((Vq ep (l.take k)).map (ZR .i64))
 kept:Kept (fun i=>i=g) w0 w
def M2 (w:Zc)(b B n j:Nat)(ss:List Zl)(s:Zl)(L:List QT)(ep:Int)(e:Ending)(w':Zc) :Prop:=
 ∃v s',e= .returned v∧w'.ownsRow w.heap.size 3 1 v (Vq ep L).length ((Vq ep L).map (ZR .i64))∧Vi w' b B n (ss.set j s') (Gf ep L)∧s'.ownBlock=s.ownBlock∧Kept (fun i=>i=B∨s.ownBlock=some i) w w'
theorem ae {w w3:Zc}{b B n j:Nat}{s s':Zl}{ss:List Zl}{L:List QT}{ep:Int}(h:Vi w b B n ss L)(hs:ss[j]?=some s)(hj:ep%(n:Int)=(j:Int))
  (hk:Kept (fun i=>s.ownBlock=some i) w w3) (ho:w3.ownsRow 0 315 2 s' (Gf ep (bk n L j)).length (XX (Gf ep (bk n L j)))) (hn:s'.ownBlock=s.ownBlock) :
  Vi (w3.setCell ⟨B,j,none⟩ s') b B n (ss.set j s') (Gf ep L):=by
 have FA:=h.not hs;have uY:w3.heap[B]?=w.heap[B]?:=hk.block B h.bks.lt FA.2;have e1:bk n (Gf ep L) j=Gf ep (bk n L j):=WD n L j _;refine h.upd hs ?_ ?_ (fun i t hij ht q hq=>?_) ?_ (fun i hi=>?_) (.inl hn) (fun x hx=>h.ok x (List.mem_filter.1 hx).1)
 ·exact zO
 ·exact ZgG
 ·exact Zf8
 ·rw [e1];exact UU (w:=w3) ho (fun q hq=>Xs _ _ _ _ (fun e=>FA.2 (by rw [←hn,hq,e])))
 ·rw [show bk n (Gf ep L) i=Gf ep (bk n L i) from WD n L i _];exact nZ hj hi L
theorem ir {n j:Nat}{ep:Int}(h:ep%(n:Int)=(j:Int))(L:List QT) :Vq ep (bk n L j)=Vq ep L:=by
 unfold Vq;rw [nX h]
theorem uI (b B n j g cp:Nat)(ss:List Zl)(L:List QT)(ep:Int)(w:Zc)(h:Vi w b B n ss L)(hs:ss[j]?=some (.slice (some ⟨g,0,none⟩) (bk n L j).length cp))(h0:0≤ep)(h1:ep≤1099511627776)(hj:ep%(n:Int)=(j:Int))(hL:L.length≤100000) :
  Zj Zb 256 #[.pointer (some ⟨b,0,none⟩),.int .i64 ep] w (M2 w b B n j ss (.slice (some ⟨g,0,none⟩) (bk n L j).length cp) L ep):=by
 have Dj:j < n:=by exact sf
 have Gd:=h.row j _ hs;have hq:=Ca n L j;obtain ⟨x0,x1⟩:=h.cells hs;have FA:=h.not hs;have ph:=(Lj Gd).2.1;have pj:=(Lj Gd).2.2.1;unfold maxLen at pj;have HN:=Za (MJ b n j n (some ⟨B,0,none⟩) ep w x0 h.pos h.top h0 h1 hj);have hgb:g≠b:=fun e=>FA.1 (by rw [e]; rfl)
 have hgB:g≠B:=fun e=>FA.2 (by rw [e]; rfl)
 have hBl:=h.bks.lt;have HH:=Za h;have HS:=Za hs;have HJ:=Za hj;obtain ⟨l,hl⟩ : ∃l,bk n L j=l:=⟨_,rfl⟩;rw [hl] at Gd hq ph x1 HS ⊢;obtain ⟨q,hqe⟩ : ∃q,l.length=q:=⟨_,rfl⟩;rw [hqe] at Gd hq ph x1 HS ⊢;have H0:Hid (gM w w g cp q 0 0 ep l (.slice none 0 0)):=Za ⟨rfl,by simpa [Gf] using Lj Gd,Xr _ _ _ _,ZH _ _⟩;have HLL:=Za (Zh hl hqe);have hj1: ¬(j:Int)< 0:=by omega
 have yO: ¬(n:Int)≤(j:Int):=by omega
 have hj3:(j:Int)< (n:Int):=by omega
 have hn4:n≤4096:=h.top;have X0:=Za x0;have X1:=Za x1;clear h hs Gd FA hj hl hqe;obtain ⟨i0,MD,BM,Wd,Wc⟩:=LK;go_enter Tryz.func256,Tryz.ntmps256;go_wp2_with fail;refine HN.out.mono ?_;rintro e w' ⟨rfl,rfl⟩;clear HN;go_wp2_with fail;go_loopw [7,8,35] (fun s7 s8 s35 wr=> ∃k r:Nat,r≤k∧k≤q∧s35= .int .i64 k∧s8= .slice (some ⟨g,0,none⟩) r cp∧Hid (gM w wr g cp q k r ep l s7)) (fun _ _ s35 _=>q -(intOf s35).toNat)
 case atStart=>exact ⟨0,0,by omega,by omega,rfl,rfl,H0⟩
 case round=>
  clear H0 x0 x1;obtain ⟨k,r,hrk,hk,rfl,rfl,HD⟩:=hrel
  by_cases XP:k < q
  ·obtain ⟨x,hx⟩ : ∃x,l[k]?=some x:=⟨_,Zf (by have:=HLL.out.2; omega)⟩;have hd:=HD.out;have HRX:Hid (wr.rangeAt g (k*2) (BI x)):=Za (hd.row.at (by
    rw [List.getElem?_append_right (by have:=hd.len; omega),hd.len,List.getElem?_drop,show r+(k - r)=k by omega];exact hx))
   have HE:Hid (Blk (wr.alloc (.cells (JO x) 315)) wr.heap.size 315 (JO x)):=Za (Zv _ _ _);have c0:(wr.alloc (.cells (JO x) 315)).cell? ⟨wr.heap.size,0,none⟩=some (.int .i64 x.1):=HE.out.cell 0;have c1:(wr.alloc (.cells (JO x) 315)).cell? ⟨wr.heap.size,1,none⟩=some (.int .i64 x.2):=HE.out.cell 1;have HX:=Za hx;have P7: ¬(k:Int)< 0:=by omega
   have kQ: ¬(q:Int)≤(k:Int):=by omega
   have mQ:(k:Int)< (q:Int):=by omega
   have yK:=hd.row.lt;have hws:=hd.kept.size;have aH:=oV ep (l.take k);have hgo2:(l.take k).length≤k:=by rw [Xl]; omega
   clear hd hx
   by_cases heq:x.1=ep
   ·have ER:(x.1==ep)=true:=by simpa using heq
    have zY:=Za heq;clear heq;go_wp2_with (first | (refine BT rfl 315 _ rfl g (k*2) rfl x _ HRX.out Tryz.underlying315 rfl Lc ?_) | (refine Zo rfl _ _ _ rfl wr.heap.size (JO x) rfl rfl 315 _ (ZG wr _) Lc rfl (RP x) ?_; rw [Zu]) | (at_builtin; (refine X7 _ rfl (.tmp 43) (.tmp 46) 47 rfl w.heap.size 3 i0 _ 1 8 Tryz.underlying47 MD BM Wd Wc rfl Nat.one_pos u7 (Vq ep (l.take k)).length _ rfl ((HD.out.out.alloc _).alloc _) (some ⟨wr.heap.size+1,0,none⟩) 1 1 [.int .i64 x.2] rfl rfl (fun _=>⟨_,rfl,by have:=cell_one_new (wr.alloc (.cells (JO x) 315)) (.int .i64 x.2) 3; rwa [World.size_alloc] at this⟩) (by simp [Value.oneCell']) UH Zm zB13_2 ?_; intro v1 w1 ho hg hv1)));have hZ:gM w w1 g cp q (k+1) r ep l v1:=by
     have hd:=HD.out;have et:=ag HX.out;have k1:Kept (fun i=>u7.ownBlock=some i) wr w1:=((ZH _ wr).alloc _).alloc _ |>.trans (Xu hg (S:=fun i=>u7.ownBlock=some i) (fun i hi=>hi.symm)) (fun _ _ h=>h);have KF: ∀i,u7.ownBlock=some i→w.heap.size≤i:=fun i hi=>(hd.out.lt i hi).1
     have hgw:g < w.heap.size:=by
      have:=HH.out.row j _ HS.out;exact (this.lt g rfl).2
     refine ⟨by rw [et,LV,if_pos zY.out]; exact hd.len,?_,?_,?_⟩
     ·rw [et,LV,if_pos zY.out];exact hd.row.same (k1.block g hd.row.lt (fun h=>by have:=KF g h; omega))
     ·rw [et,WS,if_pos zY.out];simpa using ho
     ·exact hd.kept.trans (k1.more (T:=fun i=>w.heap.size≤i) (fun i _ h=>KF i h)) (fun i hi h=>by omega)
    have HZ:=Za hZ;clear ho hg hv1 hZ HD HRX HE c0 c1;go_wp2;go_roundw
    case rel=>exact ⟨k+1,r,by omega,by omega,by go_num,rfl,HZ⟩
    case measure=>exact Bl
   ·have ER:(x.1==ep)=false:=by simpa using heq
    have zY:=Za heq;have HT:Hid (((wr.alloc (.cells (JO x) 315)).alloc (.cells (JO x) 315)).there g (r*2) 2∧gM w (((wr.alloc (.cells (JO x) 315)).alloc (.cells (JO x) 315)).setCells g (r*2) (BI x)) g cp q (k+1) (r+1) ep l u7):=Za (by
     have hd:=HD.out;have et:=ag HX.out;have hB:Zs wr.heap.size wr ((wr.alloc (.cells (JO x) 315)).alloc (.cells (JO x) 315)):=((Zp _ _).alloc (Zg _) _).alloc ZI _;have yW:=hd.row.below hB;have hrl:r < l.length:=by have:=HLL.out.2; omega
     have hgw:g < w.heap.size:=by
      have:=HH.out.row j _ HS.out;exact (this.lt g rfl).2
     rw [List.drop_eq_getElem_cons hrl] at yW;obtain ⟨t1,t2⟩:=yW.set hd.len x;refine ⟨t2,⟨by rw [et,LV,if_neg zY.out,ZE,hd.len]; rfl,?_,?_,?_⟩⟩
     ·rw [et,LV,if_neg zY.out];simpa using t1
     ·rw [et,WS,if_neg zY.out];refine UU ((hd.out.alloc (.cells (JO x) 315)).alloc (.cells (JO x) 315)) (fun i hi=>?_);have Fz:=(hd.out.lt i hi).1;have kk:Kept (fun i=>i=g) ((wr.alloc (.cells (JO x) 315)).alloc (.cells (JO x) 315)) (((wr.alloc (.cells (JO x) 315)).alloc (.cells (JO x) 315)).setCells g (r*2) (BI x)):=QF _ _ _ (ZH _ _) (.inl rfl);exact kk.block i (by have:=(hd.out.lt i hi).2; simp; omega) (fun e=>by have e:i=g:=e; omega)
     ·exact QF _ _ _ ((hd.kept.alloc _).alloc _) (.inl rfl))
    have hq2:r+1≤cp:=by omega
    clear heq;go_wp2_with (first | (refine BT rfl 315 _ rfl g (k*2) rfl x _ HRX.out Tryz.underlying315 rfl Lc ?_) | (refine Zo rfl _ _ _ rfl wr.heap.size (JO x) rfl rfl 315 _ (ZG wr _) Lc rfl (RP x) ?_; rw [Zu]) | (refine BT rfl 315 _ rfl wr.heap.size 0 rfl x _ HE.out.range Tryz.underlying315 rfl Lc ?_) | (refine Ws rfl _ rfl x rfl ?_) | (at_builtin; refine NQ rfl (.tmp 48) (.tmp 50) rfl g r cp (wr.alloc (.cells (JO x) 315)).heap.size x rfl rfl (iK (wr.alloc (.cells (JO x) 315)) x 315) hq2 HT.out.1 ?_));go_roundw
    case rel=>exact ⟨k+1,r+1,by omega,by omega,by go_num,rfl,Za HT.out.2⟩
    case measure=>exact Bl
  ·obtain rfl:k=q:=by omega
   have hd:=HD.out;have e1:=HLL.out;have aL:Kept (fun i=>(Yj (some ⟨g,0,none⟩) k cp).ownBlock=some i) w wr:=hd.kept.more (fun i _ h=>by rw [h]; rfl);have y0:=hd.kept.cell (p:=⟨b,0,none⟩) (fun e=>hgb e.symm) X0.out;have y1:=hd.kept.cell (p:=⟨B,j,none⟩) (fun e=>hgB e.symm) X1.out;have z1:wr.frozen? ⟨B,j,none⟩=false:=by
    rw [hd.kept.frozen (p:=⟨B,j,none⟩) (fun e=>hgB e.symm) hBl];exact HH.out.bks.frozen j
   have HP:Hid (M2 w b B n j ss (.slice (some ⟨g,0,none⟩) k cp) L ep (.returned u7) (wr.setCell ⟨B,j,none⟩ (.slice (some ⟨g,0,none⟩) r cp))):=Za (by
    have ho:=hd.out;have hlen:=hd.len;have hrw:=hd.row;rw [List.take_of_length_le Zm] at ho hlen hrw;have sY:wr.ownsRow 0 315 2 (.slice (some ⟨g,0,none⟩) r cp) (Gf ep (bk n L j)).length (XX (Gf ep (bk n L j))):=by
     rw [e1.1,hlen];obtain ⟨r1,r2,r3,rest,r4,r5⟩:=hrw;refine PY.owns (g:=g) (w:=wr) (cap:=cp) ⟨hlen,by omega,r3,XX (l.drop r)++rest,?_,?_⟩ (XL _)
     ·rw [ZE,Ux,r4,List.length_drop,e1.2];omega
     ·rw [←List.append_assoc,←Hu];exact r5
    refine ⟨u7,.slice (some ⟨g,0,none⟩) r cp,rfl,?_,ae HH.out HS.out HJ.out aL sY rfl,rfl,?_⟩
    ·rw [←e1.1,ir HJ.out] at ho;refine UU ho (fun i hi=>Xs _ _ _ _ (fun e=>?_));have e:i=B:=e;have:=(ho.lt i hi).1;omega
    ·exact (aL.more (fun _ _ h=> .inr h)).setCell (.inl (.inl rfl)) _)
   clear hd e1 aL HD;go_wp2;go_ret;exact HP.out
end
section
open Go Go.RowKit
theorem eZ {x:Int}(h:BU x) :Hl [x] 1=x∧BW [x] 1=true:=by
 have e:QB [x] 1=x:=by simp [QB]
 exact ⟨by rw [Hl,e,if_pos h.2],by rw [BW,e,decide_eq_true h.2]⟩
section
variable {w w':Zc} {h k:Nat} {lim s x:Int} {p:Nat × Int} {S:Nat→Prop} {a:Option Addr} {L:List Int} {cap:Nat}
theorem IS (i:Int)(hu:NY w S a L)(hL:L.length≤9223372036854775807)(hA:LZ L) :
  Zj Zb 261 #[.slice a L.length cap,.int .i64 i] w fun e w'=>e= .returned (.int .u64 (KM L i))∧Zs w.heap.size w w':=by
 have hb:Zs w.heap.size w (w.alloc (.cells #[.int .i64 i] 3)):=(Zp _ _).alloc (Zg _) _;have HW:=Za (cM (I:= [i]) (ic:=1) (cap:=cap) (S2:=fun _=>False) (hu.below hb) hL hA (JU.of_blk (L:= [i]) (Zv w 3 #[.int .i64 i]) (fun h=>h)) ZI);have HB:=Za hb;have HO:=Za (eZ (NO hA i));clear hb hu hL hA;go_enter Tryz.func261,Tryz.ntmps261;go_wp2_with fail;refine HW.out.mono ?_;rintro e w' ⟨rfl,b1⟩;rw [List.map_cons,List.map_nil,List.length_singleton,HO.out.1,HO.out.2];have B1:=Za b1;clear b1 HW;go_wp2;go_ret;exact ⟨rfl,HB.out.trans (B1.out.mono HB.out.size)⟩
theorem vS (bb wb:Nat)(i:Int)(w:Zc)(hB:Blk w bb 324 #[Na h])(hW:Blk w wb 143 #[.slice a L.length cap])(hu:NY w S a L)(hL:L.length≤9223372036854775807)(hA:LZ L)
  (hb:PV w h lim p) (hs:BU p.2) (hl:BU lim) (hk:p.1≤1000000000) :
  Zj Zb 260 #[.int .i64 i,.pointer (some ⟨bb,0,none⟩),.pointer (some ⟨wb,0,none⟩)] w fun e w'=>
   e= .returned (.bool (((VD lim p (KM L i)).1:Int)==1))∧PV w' h lim (VD lim p (KM L i))∧Kept (fun i=>i=h+1∨i=h+2) w w':=by
 have HWt:=Za (fun w' (hb':Zs w.heap.size w w')=>IS (cap:=cap) i (hu.below hb') hL hA);have HBn:=Za (fun w' (h':PV w' h lim p)=>uw w' h' hs (NO hA i) hl hk);have tG:=Za (Zh hB (Zh hW hb));have c1:w.cell? ⟨bb,0,none⟩=some (Na h):=hB.cell 0;have c2:w.cell? ⟨wb,0,none⟩=some (.slice a L.length cap):=hW.cell 0;have HC:=Za (Zh c1 c2);clear hB hW hb hu hA c1 c2;go_enter Tryz.func260,Tryz.ntmps260;go_wp2;refine M0 (fun w'=>w'.cell? ⟨bb,0,none⟩=some (Na h)∧w'.cell? ⟨wb,0,none⟩=some (.slice a L.length cap)) 4 1 [0,1,2] HC.out ?_;refine Kg ?_;refine TK ?_;refine YJ 324 _ ⟨bb,0,none⟩ (Na h) rfl rfl rfl (fun w h=>by simp [go_sem,h]) (fun w h=>h.1) ?_;refine YJ 143 _ ⟨wb,0,none⟩ (.slice a L.length cap) rfl rfl rfl (fun w h=>by simp [go_sem,h]) (fun w h=>h.2) ?_;refine Qe ?_;refine GN ?_;refine Qc ?_;refine hfO (i:=3) ?_;refine JZ #[.slice a L.length cap,.int .i64 i] Tryz.call261 ((HWt.out w.drew (Below.drew (Zp _ _))).mono ?_);rintro e w1 ⟨rfl,b1⟩;have B1:Hid (Zs w.heap.size w w1):=Za ((Below.drew (Zp _ _)).trans b1);clear b1;have K1:Hid (PV w1 h lim p):=Za (tG.out.2.2.kept (S:=fun _=>False) (YP B1.out) (fun _ _ _ h=>h));refine ⟨_,rfl,⟨(tG.out.1.below B1.out tG.out.1.lt).cell 0,(tG.out.2.1.below B1.out tG.out.2.1.lt).cell 0⟩,?_⟩;refine Bn ?_;refine ⟨by kernel_rfl,?_⟩;refine LY ?_;have H4:=Za (HBn.out w1 K1.out);have B2:Hid (Kept (fun i=>i=h+1∨i=h+2) w w1):=Za (YP B1.out);clear HBn HWt tG HC K1 B1;generalize hq:VD lim p (KM L i)=q at H4;have HQ:=Za hq;clear hq;unfold Na;go_wp2_with fail;refine H4.out.mono ?_;rintro e w' ⟨rfl,b4,k4⟩;have B4:=Za (Zh b4 k4);clear b4 k4 H4;go_wp2;refine GM ?_;go_wp2;go_ret;rw [HQ.out];exact ⟨rfl,B4.out.1,B2.out.trans B4.out.2 (fun _ _ h=>h)⟩
end
end
section
open Go Go.RowKit Go.Deep
theorem ox (b B n j:Nat)(ss:List Zl)(L:List QT)(ep:Int)(w:Zc)(h:Vi w b B n ss L)(hs:ss[j]?=some (.slice none 0 0))(h0:0≤ep)(h1:ep≤1099511627776)(hj:ep%(n:Int)=(j:Int))(hl:bk n L j=[]) :
  Zj Zb 256 #[.pointer (some ⟨b,0,none⟩),.int .i64 ep] w (M2 w b B n j ss (.slice none 0 0) L ep):=by
 have Dj:j < n:=by exact sf
 obtain ⟨x0,x1⟩:=h.cells hs;have HN:=Za (MJ b n j n (some ⟨B,0,none⟩) ep w x0 h.pos h.top h0 h1 hj);have hj1: ¬(j:Int)< 0:=by omega
 have yO: ¬(n:Int)≤(j:Int):=by omega
 have hj3:(j:Int)< (n:Int):=by omega
 have hn4:n≤4096:=h.top;have z1:w.frozen? ⟨B,j,none⟩=false:=h.bks.frozen j;have HP:Hid (M2 w b B n j ss (.slice none 0 0) L ep (.returned (.slice none 0 0)) (w.setCell ⟨B,j,none⟩ (.slice none 0 0))):=Za (by
  have hg:Vq ep L=[]:=by rw [←ir hj,hl]; rfl
  refine ⟨_,.slice none 0 0,rfl,?_,ae h hs hj (ZH _ _) ?_ rfl,rfl,(ZH _ _).setCell (.inl (.inl rfl)) _⟩
  ·rw [hg]; exact Xr _ _ _ _
  ·rw [hl]; exact Xr _ _ _ _)
 clear h hs hj hl;go_enter Tryz.func256,Tryz.ntmps256;go_wp2_with fail;refine HN.out.mono ?_;rintro e w' ⟨rfl,rfl⟩;clear HN;go_wp2_with fail;go_loopw [7,8,35] (fun s7 s8 s35 wr=>s7= .slice none 0 0∧s8= .slice none 0 0∧s35= .int .i64 0∧w=wr) (fun _ _ _ _=>0)
 case atStart=>exact ⟨rfl,rfl,rfl,rfl⟩
 case round=>
  obtain ⟨rfl,rfl,rfl,rfl⟩:=hrel;go_wp2;go_ret;exact HP.out
theorem uG (b n:Nat)(S:Nat→Prop)(L:List QT)(ep:Int)(w:Zc)(h:GX w b S n L)(h0:0≤ep)(h1:ep≤1099511627776)(hL:L.length≤100000) :
  Zj Zb 256 #[.pointer (some ⟨b,0,none⟩),.int .i64 ep] w fun e w'=> ∃v S',e= .returned v∧w'.ownsRow w.heap.size 3 1 v (Vq ep L).length ((Vq ep L).map (ZR .i64))∧GX w' b S' n (Gf ep L)∧(∀i,S' i→S i)∧Kept S w w':=by
 obtain ⟨B,ss,hp,hS⟩:=h;obtain ⟨j,hj⟩ : ∃j:Nat,ep%(n:Int)=(j:Int):=⟨(ep%(n:Int)).toNat,by have:=Int.emod_nonneg ep (b:=(n:Int)) gG; omega⟩;have Dj:j < n:=by exact zD
 obtain ⟨s,hs⟩:=hp.get Dj;have key:Zj Zb 256 #[.pointer (some ⟨b,0,none⟩),.int .i64 ep] w (M2 w b B n j ss s L ep):=by
  have hr:=hp.row j s hs
  rcases hr.2 with ⟨h1,h2⟩ | ⟨g,cp,cur,h1,_⟩
  ·subst h1;exact ox b B n j ss L ep w hp hs h0 ‹_› hj (List.eq_nil_of_length_eq_zero h2)
  ·subst h1;exact uI b B n j g cp ss L ep w hp hs h0 ‹_› hj hL
 refine key.mono ?_;rintro e w' ⟨v,s',he,ho,h2,h3,h4⟩;refine ⟨v,fun i=>i=b∨i=B∨ ∃s:Zl,s ∈ ss.set j s'∧s.ownBlock=some i,he,ho,⟨B,_,h2,fun _=>Iff.rfl⟩,?_,h4.more (fun i _ hi=>?_)⟩
 ·rintro i (rfl | rfl | ⟨t,ht,hq⟩)
  ·exact (hS _).2 (.inl rfl)
  ·exact (hS _).2 (.inr (.inl rfl))
  ·rcases List.mem_or_eq_of_mem_set ht with ht | rfl
   ·exact (hS i).2 (.inr (.inr ⟨t,ht,hq⟩))
   ·exact (hS i).2 (.inr (.inr ⟨s,ZB hs,by rw [←h3]; exact hq⟩))
 ·exact Zgv
end
section
open Go Go.ChangeShapes Go.WideShapes Go.RowKit Go.Deep
structure Rc where
 kd:Int
 cd:Int
 ix:Int
 bl:Int
 ep:Int
 dl:Int
 aa:Option Addr
 an:Nat
 ac:Nat
 pa:Option Addr
 pn:Nat
 pc:Nat
 vs:Int
deriving Inhabited
def Rc.row (v:Rc) :List Zl:= [.int .i64 v.kd,.int .i64 v.cd,.int .i64 v.ix,.int .i64 v.bl,.int .i64 v.ep,.int .i64 v.dl,.slice v.aa v.an v.ac,.slice v.pa v.pn v.pc,.int .i64 v.vs]
def Zw (v:Rc) :Array Zl:=v.row.toArray
def Gg:Rc:=⟨0,0,0,0,0,0,none,0,0,none,0,0,0⟩
theorem Rc.row_len (v:Rc) :v.row.length=9:=rfl
theorem Rc.row_one (v:Rc) : ∀u ∈ v.row,u.oneCell'=true:=by
 intro u hu;simp only [Rc.row,List.mem_cons,List.not_mem_nil,or_false] at hu
 rcases hu with rfl | rfl | rfl | rfl | rfl | rfl | rfl | rfl | rfl <;> rfl
theorem YH (v:Rc) :(Zw v).all (·.oneCell')=true:=by
 refine Array.all_eq_true_iff_forall_mem.2 (fun u hu=>Rc.row_one v u (by simpa [Zw] using hu))
theorem YS:(Tryz.prog.info? 42).map (·.size)=some 9:=by kernel_rfl
section
variable {P:Program} {ops:Array Oper} {rest:List Oper} {op:Oper} {a:Act} {w:Zc} {Q:Exit→Act→Zc→Prop}
theorem Hc (hg:op.guard=none)(t:TypeId)(parts:Array (Nat × Operand))(ho:op.op= .build t parts)(v:Rc)
  (hf:P.built t (parts.map fun (i,x)=>(i,a.eval x)).toList=some (Zw v)) (h:YY P ops Q rest (a.put op.dst (.agg (Zw v))) w) :YY P ops Q (op::rest) a w:=
 wpList_build hg t parts ho (by rw [hf]; rfl) Io
end
end
section
open Go Go.RowKit Go.Deep
def VX (k c b e:Int) :Rc:=⟨k,c,-1,b,e,-1,none,0,0,none,0,0,0⟩
def Bo (k i d b e:Int) :Rc:=⟨k,0,i,b,e,d,none,0,0,none,0,0,0⟩
theorem fE (o:Oq)(c b e:Int)(w:Zc) :Zj Zb 37 #[.agg (ZM o),.int .i64 c,.int .i64 b,.int .i64 e] w fun e' w'=>e'= .returned (.agg (Zw (VX o.kd c b e)))∧Zs w.heap.size w w':=by
 have KO:Hid (Blk ((w.alloc (.cells (ZM o) 37)).alloc (.cells (Zw Gg) 42)) w.heap.size 37 (ZM o)):=Za ((Zv w _ _).alloc _);have KZ:Hid (Blk ((w.alloc (.cells (ZM o) 37)).alloc (.cells (Zw Gg) 42)) (w.heap.size+1) 42 (Zw Gg)):=Za (by
  have h:=Zv (w.alloc (.cells (ZM o) 37)) 42 (Zw Gg);rwa [show (w.alloc (.cells (ZM o) 37)).heap.size=w.heap.size+1 by simp] at h)
 have B0:Hid (Zs w.heap.size w ((w.alloc (.cells (ZM o) 37)).alloc (.cells (Zw Gg) 42))):=Za (((Zp _ _).alloc (Zg _) _).alloc ZI _);go_enter Tryz.func37,Tryz.ntmps37;go_upto_region 1 with (fail);generalize hW:(w.alloc (.cells (ZM o) 37)).alloc (.cells _ 42)=W;have eW:(w.alloc (.cells (ZM o) 37)).alloc (.cells (Zw Gg) 42)=W:=hW;rw [eW] at KO KZ B0;clear hW eW;have k0:W.cell? ⟨w.heap.size,0,none⟩=some (.int .i64 o.kd):=KO.out.cell 0;go_wp2_with (first | (refine Hc rfl 42 _ rfl (VX o.kd c b e) Ye ?_) | (refine Zo rfl _ _ _ rfl (w.heap.size+1) (Zw (VX o.kd c b e)) rfl rfl 42 _ KZ.out YS rfl (YH _) ?_));exact ZL (v:= .agg (Zw (VX o.kd c b e))) (ZO (fn:=Tryz.f37) rfl _ _ (w.heap.size+1) 42 _ (0,0) _ rfl (Z6 _ _ _ _ _ _ KZ.out) Yb rfl YS) rfl ⟨rfl,Xv B0.out Zm _⟩
theorem TX (o:Oq)(i d b e:Int)(w:Zc) :Zj Zb 184 #[.agg (ZM o),.int .i64 i,.int .i64 d,.int .i64 b,.int .i64 e] w fun e' w'=>e'= .returned (.agg (Zw (Bo o.kd i d b e)))∧Zs w.heap.size w w':=by
 have KO:Hid (Blk ((w.alloc (.cells (ZM o) 37)).alloc (.cells (Zw Gg) 42)) w.heap.size 37 (ZM o)):=Za ((Zv w _ _).alloc _);have KZ:Hid (Blk ((w.alloc (.cells (ZM o) 37)).alloc (.cells (Zw Gg) 42)) (w.heap.size+1) 42 (Zw Gg)):=Za (by
  have h:=Zv (w.alloc (.cells (ZM o) 37)) 42 (Zw Gg);rwa [show (w.alloc (.cells (ZM o) 37)).heap.size=w.heap.size+1 by simp] at h)
 have B0:Hid (Zs w.heap.size w ((w.alloc (.cells (ZM o) 37)).alloc (.cells (Zw Gg) 42))):=Za (((Zp _ _).alloc (Zg _) _).alloc ZI _);go_enter Tryz.func184,Tryz.ntmps184;go_upto_region 1 with (fail);generalize hW:(w.alloc (.cells (ZM o) 37)).alloc (.cells _ 42)=W;have eW:(w.alloc (.cells (ZM o) 37)).alloc (.cells (Zw Gg) 42)=W:=hW;rw [eW] at KO KZ B0;clear hW eW;have k0:W.cell? ⟨w.heap.size,0,none⟩=some (.int .i64 o.kd):=KO.out.cell 0;go_wp2_with (first | (refine Hc rfl 42 _ rfl (Bo o.kd i d b e) Ye ?_) | (refine Zo rfl _ _ _ rfl (w.heap.size+1) (Zw (Bo o.kd i d b e)) rfl rfl 42 _ KZ.out YS rfl (YH _) ?_));exact ZL (v:= .agg (Zw (Bo o.kd i d b e))) (ZO (fn:=Tryz.f184) rfl _ _ (w.heap.size+1) 42 _ (0,0) _ rfl (Z6 _ _ _ _ _ _ KZ.out) Yb rfl YS) rfl ⟨rfl,Xv B0.out Zm _⟩
end
section
open Go Go.RowKit Go.Deep
theorem MT (w:Zc)(A:Obj)(cs:Array Zl)(t:TypeId) :Blk ((w.alloc A).alloc (.cells cs t)) (w.heap.size+1) t cs:=by
 have:=Zv (w.alloc A) t cs;simpa using this
theorem OA:(#[.int .i64 0,.int .u64 0] :Array Zl)=ZA L8:=rfl
theorem N9 (w:Zc)(A B:Obj) :Zs w.heap.size w ((w.alloc A).alloc B):=((Zp _ _).alloc (Zg _) _).alloc ZI _
theorem Ov (r:Rq)(x:Int)(w:Zc) :
  Zj Zb 253 #[.agg (ZA r),.int .u64 x] w fun e w'=>e= .returned (.agg (ZA ⟨r.ix,x⟩))∧Zs w.heap.size w w':=by
 have HB:Hid (Blk ((w.alloc (.cells (ZA r) 75)).alloc (.cells (ZA L8) 75)) w.heap.size 75 (ZA r)∧Blk ((w.alloc (.cells (ZA r) 75)).alloc (.cells (ZA L8) 75)) (w.heap.size+1) 75 (ZA L8)):=Za ⟨(Zv w _ _).alloc _,MT w _ _ _⟩;have HL:Hid (Zs w.heap.size w ((w.alloc (.cells (ZA r) 75)).alloc (.cells (ZA L8) 75))):=Za (N9 _ _ _);go_enter Tryz.func253,Tryz.ntmps253;go_upto_region 1 with (fail);simp only [OA];generalize (w.alloc (.cells (ZA r) 75)).alloc (.cells (ZA L8) 75)=W at*;have x0:W.cell? ⟨w.heap.size,0,none⟩=some (.int .i64 r.ix):=HB.out.1.cell 0;go_wp2_with (first | (refine PS rfl 75 _ rfl ⟨r.ix,x⟩ Ye ?_) | (refine Zo rfl _ _ _ rfl (w.heap.size+1) (ZA ⟨r.ix,x⟩) rfl rfl 75 _ HB.out.2 Qy rfl (Ky _) ?_));exact ZL (v:= .agg (ZA ⟨r.ix,x⟩)) (ZO (fn:=Tryz.f253) rfl _ _ (w.heap.size+1) 75 (ZA ⟨r.ix,x⟩) (0,0) _ rfl (Z6 _ _ _ _ _ _ HB.out.2) Z3 rfl Qy) rfl ⟨rfl,Xv HL.out Zm _⟩
theorem Ez (r:Rq)(n:Nat)(w:Zc) :
  Zj Zb 203 #[.agg (ZA r),.int .i64 n] w fun e w'=>e= .returned (.bool (Uz r n))∧Zs w.heap.size w w':=by
 have HB:Hid (Blk (w.alloc (.cells (ZA r) 75)) w.heap.size 75 (ZA r)∧Zs w.heap.size w (w.alloc (.cells (ZA r) 75))):=Za ⟨Zv w _ _,(Zp _ _).alloc (Zg _) _⟩;have hx:Hid ((decide (0≤r.ix)&&decide (r.ix < (n:Int)))=Uz r n):=Za (by rw [Uz,Bool.decide_and])
 by_cases h1:0≤r.ix
 ·have d1:decide (0≤r.ix)=true:=decide_eq_true h1;obtain ⟨b,hb⟩ : ∃b,decide (r.ix < (n:Int))=b:=⟨_,rfl⟩;have E:Hid (Uz r n=b):=Za (by rw [←hx.out,d1,hb,Bool.true_and]);exact ZfX
 ·have d1:decide (0≤r.ix)=false:=decide_eq_false h1;have E:Hid (Uz r n=false):=Za (by rw [←hx.out,d1,Bool.false_and]);exact ZfX
theorem WO (r:Rq)(w:Zc) :
  Zj Zb 204 #[.agg (ZA r)] w fun e w'=>e= .returned (.bool (decide (r.am=0)))∧Zs w.heap.size w w':=by
 have HK:Hid (VL w.heap.size w.heap.size 75 (ZA r) w (w.alloc (.cells (ZA r) 75))):=Za (VL.new (Zp _ _) (Zg _));have E:Hid (decide (r=(⟨r.ix,0⟩ :Rq))=decide (r.am=0)):=Za (by
  obtain ⟨i,a⟩:=r;simp)
 obtain ⟨b,hb⟩ : ∃b,decide (r.am=0)=b:=⟨_,rfl⟩;rw [hb] at E ⊢;clear hb;go_enter Tryz.func204,Tryz.ntmps204;go_upto_region 1 with (fail);generalize w.alloc (.cells (ZA r) 75)=W at*;refine XB (VL w.heap.size w.heap.size 75 (ZA r) w) Ye Ye HK.out.drew ?_;refine Jw 75 _ w.heap.size 75 (ZA r) _ rfl rfl rfl (fun w' h=>h.1) Z3 rfl Qy ?_;refine Qe ?_;refine Jw 75 _ w.heap.size 75 (ZA r) _ rfl rfl rfl (fun w' h=>h.1) Z3 rfl Qy ?_;refine Qe ?_;refine SO (.agg (ZA ⟨r.ix,0⟩)) #[.agg (ZA r),.int .u64 0] Ye Ye Tryz.call253 (fun w' h=>h.call (Ov r 0 w')) ?_;refine Qe ?_;refine ZbW r ⟨r.ix,0⟩ b rfl rfl rfl E.out ?_;refine Qe ?_;refine GN ?_;refine Qc ?_;intro w1 k1;go_wp2;go_ret;exact ⟨rfl,k1.2.1⟩
theorem Cg (S:Nat→Prop)(a:Option Addr)(cp:Nat)(l:List Yd)(r:Rq)(w:Zc)(h:Fm w S a l) :
  Zj Zb 132 #[.slice a l.length cp,.agg (ZA r)] w fun e w'=>e= .returned (.int .i64 (Ob l r))∧Zs w.heap.size w w':=by
 have HK:Hid (VL w.heap.size w.heap.size 75 (ZA r) w (w.alloc (.cells (ZA r) 75))):=Za (VL.new (Zp _ _) (Zg _));have HW:=Za (fun w=>Ez r l.length w);have HE:=Za (fun w=>WO r w);have HL:=Za h;obtain ⟨n,hn⟩ : ∃n,l.length=n:=⟨_,rfl⟩;rw [hn] at HW ⊢;clear h
 cases hb:Uz r n with
 | false=>
  have E:Hid (Ob l r=7):=Za (by rw [Ob,hn,hb]; rfl);rw [hb] at HW;clear hb hn HL;go_enter Tryz.func132,Tryz.ntmps132;go_upto_region 1 with (fail);generalize w.alloc (.cells (ZA r) 75)=W at*;go_wp2_with (first | (refine Zn rfl 75 _ rfl w.heap.size rfl 75 _ (0,0) _ HK.out.1 Z3 rfl Qy ?_));refine (HK.out.call (HW.out _)).mono ?_;rintro e w1 ⟨rfl,k1⟩;have K1:=Za k1;clear k1 HK;go_wp2;go_ret;exact ⟨congrArg (fun x=>XR (.int .i64 x)) E.out.symm,K1.out.2.1⟩
 | true=>
  rw [hb] at HW
  by_cases h0:r.am=0
  ·have E:Hid (Ob l r=3):=Za (by rw [Ob,hn,hb,if_neg ZI,if_pos h0]);rw [decide_eq_true h0] at HE;clear hb hn HL h0;go_enter Tryz.func132,Tryz.ntmps132;go_upto_region 1 with (fail);generalize w.alloc (.cells (ZA r) 75)=W at*;go_wp2_with (first | (refine Zn rfl 75 _ rfl w.heap.size rfl 75 _ (0,0) _ HK.out.1 Z3 rfl Qy ?_));refine (HK.out.call (HW.out _)).mono ?_;rintro e w1 ⟨rfl,k1⟩;have K1:=Za k1;clear k1 HK;go_wp2_with (first | (refine Zn rfl 75 _ rfl w.heap.size rfl 75 _ (0,0) _ K1.out.1 Z3 rfl Qy ?_));refine (K1.out.call (HE.out _)).mono ?_;rintro e w2 ⟨rfl,k2⟩;have K2:=Za k2;clear k2 K1;go_wp2;go_ret;exact ⟨congrArg (fun x=>XR (.int .i64 x)) E.out.symm,K2.out.2.1⟩
  ·rw [decide_eq_false h0] at HE;obtain ⟨i,v,hi,hv⟩:=aQ (l:=l) (r:=r) (by rw [hn]; exact hb);have Fz:=(Zi.1 hv).1;have HV:=Za hv;have HX:=Za hi;have k1: ¬(i:Int)< 0:=by omega
   have k2: ¬(n:Int)≤(i:Int):=by omega
   have k3:(i:Int)< (n:Int):=by omega
   have E0:Ob l r=if v.st≠2 then 8 else 0:=by rw [Ob,hn,hb,if_neg ZI,if_neg h0,hi,Int.toNat_natCast,VT hv]
   by_cases hs:v.st=2
   ·have E:Hid (Ob l r=0):=Za (by rw [E0,if_neg (by simp [hs])]);have ds:(v.st != 2)=false:=by simp [hs]
    clear hb hn h0 hi hv E0 hs;go_enter Tryz.func132,Tryz.ntmps132;go_upto_region 1 with (fail);generalize w.alloc (.cells (ZA r) 75)=W at*;go_wp2_with (first | (refine Zn rfl 75 _ rfl w.heap.size rfl 75 _ (0,0) _ HK.out.1 Z3 rfl Qy ?_));refine (HK.out.call (HW.out _)).mono ?_;rintro e w1 ⟨rfl,k1'⟩;have K1:=Za k1';clear k1' HK;go_wp2_with (first | (refine Zn rfl 75 _ rfl w.heap.size rfl 75 _ (0,0) _ K1.out.1 Z3 rfl Qy ?_));refine (K1.out.call (HE.out _)).mono ?_;rintro e w2 ⟨rfl,ze⟩;have K2:=Za ze;clear ze K1;obtain ⟨b,off,rfl,hr⟩:=(HL.out.below K2.out.2.1).at HV.out;have x1:w2.cell? ⟨b,off+i*7+1,none⟩=some (.int .i64 v.st):=hr 1 _ rfl;have x0:w2.cell? ⟨w.heap.size,0,none⟩=some (.int .i64 (i:Int)):=(K2.out.1.cell 0).trans Rm;clear hr;go_wp2;go_ret;exact ⟨congrArg (fun x=>XR (.int .i64 x)) E.out.symm,K2.out.2.1⟩
   ·have E:Hid (Ob l r=8):=Za (by rw [E0,if_pos NW]);have ds:(v.st != 2)=true:=by simpa using hs
    clear hb hn h0 hi hv E0 hs;go_enter Tryz.func132,Tryz.ntmps132;go_upto_region 1 with (fail);generalize w.alloc (.cells (ZA r) 75)=W at*;go_wp2_with (first | (refine Zn rfl 75 _ rfl w.heap.size rfl 75 _ (0,0) _ HK.out.1 Z3 rfl Qy ?_));refine (HK.out.call (HW.out _)).mono ?_;rintro e w1 ⟨rfl,k1'⟩;have K1:=Za k1';clear k1' HK;go_wp2_with (first | (refine Zn rfl 75 _ rfl w.heap.size rfl 75 _ (0,0) _ K1.out.1 Z3 rfl Qy ?_));refine (K1.out.call (HE.out _)).mono ?_;rintro e w2 ⟨rfl,ze⟩;have K2:=Za ze;clear ze K1;obtain ⟨b,off,rfl,hr⟩:=(HL.out.below K2.out.2.1).at HV.out;have x1:w2.cell? ⟨b,off+i*7+1,none⟩=some (.int .i64 v.st):=hr 1 _ rfl;have x0:w2.cell? ⟨w.heap.size,0,none⟩=some (.int .i64 (i:Int)):=(K2.out.1.cell 0).trans Rm;clear hr;go_wp2;go_ret;exact ⟨congrArg (fun x=>XR (.int .i64 x)) E.out.symm,K2.out.2.1⟩
end
section
open Go Go.RowKit Go.Deep
theorem oX (a b:Int)(w:Zc)(h:b≤a)(h0:0≤b)(h1:a≤18446744073709551615) :Zj Zb 327 #[.int .u64 a,.int .u64 b] w fun e w'=>e= .returned (.tuple #[.int .u64 (a - b),.bool true])∧w=w':=by
 have hw:IntKind.u64.wrap (a - b)=a - b:=by simp [IntKind.wrap,Up,IntKind.bits]; omega
 have d:decide (a < b)=false:=decide_eq_false Zm;clear h h0 h1;exact zP
theorem uW (a b:Int)(w:Zc)(h:a < b) :Zj Zb 327 #[.int .u64 a,.int .u64 b] w fun e w'=>e= .returned (.tuple #[.int .u64 0,.bool false])∧w=w':=by
 have d:decide (a < b)=true:=decide_eq_true h;clear h;exact zP
def VC (w W:Zc)(v:Yd)(c:Nat→Int) :Prop:=Blk W w.heap.size 63 (Zd v)∧Blk W (w.heap.size+1) 24 (Zk c)∧Zs w.heap.size w W
theorem VC.new (w:Zc)(v:Yd)(c:Nat→Int) :VC w ((w.alloc (.cells (Zd v) 63)).alloc (.cells (Zk c) 24)) v c:=⟨(Zv w _ _).alloc _,MT w _ _ _,N9 _ _ _⟩
theorem VC.next {w W W':Zc}{v:Yd}{c:Nat→Int}(h:VC w W v c)(hb:Zs W.heap.size W W') :VC w W' v c:=⟨h.1.below hb h.1.lt,h.2.1.below hb h.2.1.lt,h.2.2.trans (hb.mono h.2.2.size)⟩
theorem VC.cells {w W:Zc}{v:Yd}{c:Nat→Int}(h:VC w W v c) :W.cell? ⟨w.heap.size,0,none⟩=some (.int .u64 v.bal)∧W.cell? ⟨w.heap.size,1,none⟩=some (.int .i64 v.st)∧W.cell? ⟨w.heap.size,2,none⟩=some (.bool v.sl)∧W.cell? ⟨w.heap.size+1,5,none⟩=some (.int .u64 (c 5)):=⟨h.1.cell 0,h.1.cell 1,h.1.cell 2,h.2.1.cell 5⟩
theorem jP (v:Yd)(c:Nat→Int)(w:Zc)(hv:Yo v)(hm:0≤c 5) :
  Zj Zb 319 #[.agg (Zd v),.agg (Zk c)] w fun e w'=>e= .returned (.int .u64 (Bc v (c 5)))∧Zs w.heap.size w w':=by
 have T:=Za (VC.new w v c)
 by_cases hs:v.st=2
 ·have ds:(v.st != 2)=false:=by simp [hs]
  cases hl:v.sl with
  | true=>
   have E:Hid (Bc v (c 5)=0):=Za (by rw [Bc,if_neg NW,if_pos hl]);have HL:=Za hl;clear hs hl hv hm;go_enter Tryz.func319,Tryz.ntmps319;go_upto_region 1 with (fail);generalize (w.alloc (.cells (Zd v) 63)).alloc (.cells (Zk c) 24)=W at*;obtain ⟨x0,x1,x2,x3⟩:=T.out.cells;rw [HL.out] at x2;go_wp2;go_ret;exact ⟨congrArg (fun x=>XR (.int .u64 x)) E.out.symm,T.out.2.2⟩
  | false=>
   have HL:=Za hl
   by_cases hb:c 5≤v.bal
   ·have E:Hid (Bc v (c 5)=v.bal - c 5):=Za (by rw [Bc,if_neg NW,if_neg (by simp [hl])]; split <;> omega);have HS:=Za (fun w=>oX v.bal (c 5) w hb hm hv.bal.2);clear hs hl hv hm hb;go_enter Tryz.func319,Tryz.ntmps319;go_upto_region 1 with (fail);generalize (w.alloc (.cells (Zd v) 63)).alloc (.cells (Zk c) 24)=W at*;obtain ⟨x0,x1,x2,x3⟩:=T.out.cells;rw [HL.out] at x2;go_wp2_with fail;refine (HS.out _).mono ?_;rintro e w1 ⟨rfl,rfl⟩;go_wp2;go_ret;exact ⟨congrArg (fun x=>XR (.int .u64 x)) E.out.symm,T.out.2.2⟩
   ·have E:Hid (Bc v (c 5)=0):=Za (by rw [Bc,if_neg NW,if_neg (by simp [hl]),if_neg Zm]);have HS:=Za (fun w=>uW v.bal (c 5) w Zm);clear hs hl hv hm hb;go_enter Tryz.func319,Tryz.ntmps319;go_upto_region 1 with (fail);generalize (w.alloc (.cells (Zd v) 63)).alloc (.cells (Zk c) 24)=W at*;obtain ⟨x0,x1,x2,x3⟩:=T.out.cells;rw [HL.out] at x2;go_wp2_with fail;refine (HS.out _).mono ?_;rintro e w1 ⟨rfl,rfl⟩;go_wp2;go_ret;exact ⟨congrArg (fun x=>XR (.int .u64 x)) E.out.symm,T.out.2.2⟩
 ·have ds:(v.st != 2)=true:=by simpa using hs
  have E:Hid (Bc v (c 5)=0):=Za (by rw [Bc,if_pos NW]);clear hs hv hm;go_enter Tryz.func319,Tryz.ntmps319;go_upto_region 1 with (fail);generalize (w.alloc (.cells (Zd v) 63)).alloc (.cells (Zk c) 24)=W at*;obtain ⟨x0,x1,x2,x3⟩:=T.out.cells;go_wp2;go_ret;exact ⟨congrArg (fun x=>XR (.int .u64 x)) E.out.symm,T.out.2.2⟩
theorem gd:(#[.int .u64 0,.int .i64 0,.bool false,.int .i64 0,.int .i64 0,.int .i64 0,.int .i64 0] :Array Zl)=Zd ZZ:=rfl
theorem AZ (v:Yd)(x:Int)(c:Nat→Int)(w:Zc)(hv:Yo v)(hm:0≤c 5)(hx:0≤x) :
  Zj Zb 302 #[.agg (Zd v),.int .u64 x,.agg (Zk c)] w fun e w'=>e= .returned (.tuple #[.agg (Zd (Mx v x (c 5))),.int .u64 (DC v x (c 5))])∧Zs w.heap.size w w':=by
 have T:Hid (VC w (((w.alloc (.cells (Zd v) 63)).alloc (.cells (Zk c) 24)).alloc (.cells (Zd ZZ) 63)) v c∧
  Blk (((w.alloc (.cells (Zd v) 63)).alloc (.cells (Zk c) 24)).alloc (.cells (Zd ZZ) 63)) (w.heap.size+2) 63 (Zd ZZ)):=Za ⟨(VC.new w v c).next ((Zp _ _).alloc (Zg _) _),by
   have:=Zv ((w.alloc (.cells (Zd v) 63)).alloc (.cells (Zk c) 24)) 63 (Zd ZZ);simpa using this⟩
 have HA:=Za (fun w=>jP v c w hv hm);have hb:=Ea (x:=x) hv hm hx;obtain ⟨p,hp⟩ : ∃p,DC v x (c 5)=p:=⟨_,rfl⟩;obtain ⟨A,hA⟩ : ∃A,Bc v (c 5)=A:=⟨_,rfl⟩;have Sj:(if A < x then A else x)=p:=by rw [←hp,DC,hA]
 have hmin2:min x A=p:=by rw [←Sj]; split <;> omega
 obtain ⟨t,ht⟩ : ∃t,v.bal - p=t:=⟨_,rfl⟩;have hw:IntKind.u64.wrap (v.bal - p)=t:=by
  have:=hv.bal;rw [hp] at hb;rw [ht];have h3:0≤t:=by omega
  have h4:t≤18446744073709551615:=by omega
  simp [IntKind.wrap,Up,IntKind.bits]; omega
 have E:Hid (Zd (Mx v x (c 5))=(Zd v).setIfInBounds 0 (.int .u64 t)):=Za (by rw [←ht,←hp]; rfl);rw [hA] at HA;rw [hp];clear hv hm hx hb hp hA ht;go_enter Tryz.func302,Tryz.ntmps302;go_upto_region 1 with (fail);simp only [gd];generalize ((w.alloc (.cells (Zd v) 63)).alloc (.cells (Zk c) 24)).alloc (.cells (Zd ZZ) 63)=W at*;go_wp2_with (first | (refine Zn rfl 63 _ rfl w.heap.size rfl 63 _ (0,0) _ T.out.1.1 Zr rfl Ym ?_) | (refine Zn rfl 24 _ rfl (w.heap.size+1) rfl 24 _ (0,0) _ T.out.1.2.1 ZC rfl XG ?_));refine (HA.out _).mono ?_;rintro e w1 ⟨rfl,b1⟩;have T1:Hid (VC w w1 v c∧Blk w1 (w.heap.size+2) 63 (Zd ZZ)):=Za ⟨T.out.1.next b1,T.out.2.below b1 T.out.2.lt⟩;clear T b1 HA;have f0:=T1.out.1.1.frozen 0;have x0:=T1.out.1.cells.1;go_upto_region 3 with (fail);have Z:Hid (Blk (w1.setCell ⟨w.heap.size,0,none⟩ (.int .u64 t)) w.heap.size 63 (Zd (Mx v x (c 5)))∧Blk (w1.setCell ⟨w.heap.size,0,none⟩ (.int .u64 t)) (w.heap.size+2) 63 (Zd ZZ)∧Zs w.heap.size w (w1.setCell ⟨w.heap.size,0,none⟩ (.int .u64 t))):=by
  obtain ⟨⟨h1,h2,h3⟩,h4⟩:=T1.out;refine Za ⟨?_,h4.far ZI _,h3.setCell ZI _⟩;rw [E.out];exact h1.set_ 0 _
 generalize w1.setCell ⟨w.heap.size,0,none⟩ (.int .u64 t)=w2 at*;clear T1 x0 f0 E hw Sj hmin2;go_wp2_with (first | (refine Zn rfl 63 _ rfl w.heap.size rfl 63 _ (0,0) _ Z.out.1 Zr rfl Ym ?_) | (refine Zo rfl _ _ _ rfl (w.heap.size+2) (Zd (Mx v x (c 5))) rfl rfl 63 _ Z.out.2.1 Ym rfl (Yx _) ?_));exact ZL (v:= .tuple #[.agg (Zd (Mx v x (c 5))),.int .u64 p]) (XY (fn:=Tryz.f302) rfl _ _ (w.heap.size+2) 63 (Zd (Mx v x (c 5))) (0,0) _ rfl (Z6 _ _ _ _ _ _ Z.out.2.1) Zr rfl Ym) rfl ⟨rfl,Xv Z.out.2.2 Zm _⟩
end
section
open Go Go.RowKit Go.Deep
theorem Wl (w:Zc) :(Instr.alloc 63 true (.tuple #[])).run Zb w= .ok (.pointer (some ⟨w.heap.size,0,none⟩)) (w.alloc (.cells (Zd ZZ) 63)):=by
 obtain ⟨i,hi,hz,hs,LJ⟩:=Ie;simp [Instr.alloc,sizeOf,zeroValue,typeInfo,hi,hz,hs,newRow,go_sem,Value.cells]
theorem Kv {o:Oper}{a:Act}{w:Zc}{K:Act→Zc→Prop}{Q:Exit→Act→Zc→Prop}(ho:o.op= .alloc 63)
  (h:K (a.put o.dst (.pointer (some ⟨w.heap.size,0,none⟩))) (w.alloc (.cells (Zd ZZ) 63))) :o.wp Zb a w K Q:=by
 unfold Oper.wp execOp;simp only [ho,Sem.run_bind,Wl w,Result.andThen_ok,Sem.run_pure];exact h
def RC (w W:Zc)(r:Rq)(c:Nat→Int) :Prop:=Blk W w.heap.size 75 (ZA r)∧Blk W (w.heap.size+1) 24 (Zk c)∧Blk W (w.heap.size+2) 75 (ZA L8)∧Zs w.heap.size w W
theorem RC.new (w:Zc)(r:Rq)(c:Nat→Int) :RC w (((w.alloc (.cells (ZA r) 75)).alloc (.cells (Zk c) 24)).alloc (.cells (ZA L8) 75)) r c:=
 ⟨((Zv w _ _).alloc _).alloc _,(MT w _ _ _).alloc _,by
  have:=Zv ((w.alloc (.cells (ZA r) 75)).alloc (.cells (Zk c) 24)) 75 (ZA L8);simpa using this,(N9 _ _ _).alloc (by simp <;> omega) _⟩
theorem RC.next {w W W':Zc}{r:Rq}{c:Nat→Int}(h:RC w W r c)(hb:Zs W.heap.size W W') :RC w W' r c:=⟨h.1.below hb h.1.lt,h.2.1.below hb h.2.1.lt,h.2.2.1.below hb h.2.2.1.lt,h.2.2.2.trans (hb.mono h.2.2.2.size)⟩
theorem lG (r:Rq)(a:Option Addr)(n cp:Nat)(c:Nat→Int)(w:Zc)(h:Uz r n=false) :
  Zj Zb 268 #[.agg (ZA r),.slice a n cp,.agg (Zk c)] w fun e w'=>e= .returned (.agg (ZA ⟨r.ix,0⟩))∧Zs w.heap.size w w':=by
 have T:=Za (RC.new w r c);have HW:=Za (fun w=>Ez r n w);have HF:=Za (fun w=>Ov r 0 w);rw [h] at HW;clear h;go_enter Tryz.func268,Tryz.ntmps268;go_upto_region 1 with (fail);simp only [OA];generalize ((w.alloc (.cells (ZA r) 75)).alloc (.cells (Zk c) 24)).alloc (.cells (ZA L8) 75)=W at*;go_wp2_with (first | (refine Zn rfl 75 _ rfl w.heap.size rfl 75 _ (0,0) _ T.out.1 Z3 rfl Qy ?_));refine (HW.out _).mono ?_;rintro e w1 ⟨rfl,b1⟩;have T1:=Za (T.out.next b1);clear T b1 HW;go_wp2_with (first | (refine Zn rfl 75 _ rfl w.heap.size rfl 75 _ (0,0) _ T1.out.1 Z3 rfl Qy ?_));refine (HF.out _).mono ?_;rintro e w2 ⟨rfl,b2⟩;have T2:=Za (T1.out.next b2);clear T1 b2 HF;go_wp2_with (first | (refine Zo rfl _ _ _ rfl (w.heap.size+2) (ZA ⟨r.ix,0⟩) rfl rfl 75 _ T2.out.2.2.1 Qy rfl (Ky _) ?_));exact ZL (v:= .agg (ZA ⟨r.ix,0⟩)) (ZO (fn:=Tryz.f268) rfl _ _ (w.heap.size+2) 75 (ZA ⟨r.ix,0⟩) (0,0) _ rfl (Z6 _ _ _ _ _ _ T2.out.2.2.1) Z3 rfl Qy) rfl ⟨rfl,Xv T2.out.2.2.2 Zm _⟩
def Ur (W:Zc)(g n cp:Nat)(l:List Yd) :Prop:=W.ownsRow 0 63 7 (.slice (some ⟨g,0,none⟩) n cp) n (XD l)
theorem Ur.next {W W':Zc}{g n cp:Nat}{l:List Yd}(h:Ur W g n cp l)(hb:Zs W.heap.size W W') :Ur W' g n cp l:=K9 h (fun i hi=>hb.block i (ownsRow_lt h hi))
 where ownsRow_lt {W:Zc} {g n cp:Nat} {l:List Yd} (h:Ur W g n cp l) {i:Nat} (hi:(Yj (some ⟨g,0,none⟩) n cp).ownBlock=some i) :i < W.heap.size:=(World.ownsRow.lt h i hi).2
theorem Ur.lt {W:Zc}{g n cp:Nat}{l:List Yd}(h:Ur W g n cp l) :g < W.heap.size:=(World.ownsRow.lt h g rfl).2
theorem Ur.range {W:Zc}{g n cp:Nat}{l:List Yd}(h:Ur W g n cp l)(hn:l.length=n){i:Nat}{v:Yd}(hi:l[i]?=some v) :W.rangeAt g (i*7) v.row:=by
 subst hn;obtain ⟨b,off,e,r⟩:=(EY (S:=fun _=>False) h (fun _ _ h=>h)).at hi;injection e with e;injection e with e1 e2 _;subst e1 e2;rwa [ZX] at r
theorem fj (r:Rq)(g n cp i:Nat)(l:List Yd)(v:Yd)(c:Nat→Int)(w:Zc)(hO:Ur w g n cp l)(hn:l.length=n)(hi:r.ix=(i:Int))(hl:l[i]?=some v)(hv:Yo v)(hr:Ga r)(hm:0≤c 5) :
  Zj Zb 268 #[.agg (ZA r),.slice (some ⟨g,0,none⟩) n cp,.agg (Zk c)] w fun e w'=>e= .returned (.agg (ZA ⟨r.ix,DC v r.am (c 5)⟩))∧Ur w' g n cp (l.set i (Mx v r.am (c 5)))∧Kept (fun k=>k=g) w w':=by
 have T:=Za (RC.new w r c);have Fz:=(Zi.1 hl).1;have HW:=Za (fun w=>Ez r n w);rw [show Uz r n=true from decide_eq_true Zm] at HW;have HA:=Za (fun w=>AZ v r.am c w hv hm hr.am.1);have HF:=Za (fun x w=>Ov r x w);have HO:Hid (Ur w g n cp l):=Za hO;have HV:=Za hl;have HX:=Za hi;have HN:=Za hn;have HG:Hid (g < w.heap.size):=Za hO.lt;have k1: ¬(i:Int)< 0:=by omega
 have k2: ¬(n:Int)≤(i:Int):=by omega
 have k3:(i:Int)< (n:Int):=by omega
 obtain ⟨p,hp⟩ : ∃p,DC v r.am (c 5)=p:=⟨_,rfl⟩;obtain ⟨u,hu⟩ : ∃u,Mx v r.am (c 5)=u:=⟨_,rfl⟩;rw [hp,hu] at HA;rw [hp,hu];clear hO hn hi hl hv hr hm hp hu;go_enter Tryz.func268,Tryz.ntmps268;go_upto_region 1 with (fail);simp only [OA];generalize ((w.alloc (.cells (ZA r) 75)).alloc (.cells (Zk c) 24)).alloc (.cells (ZA L8) 75)=W at*;go_wp2_with (first | (refine Zn rfl 75 _ rfl w.heap.size rfl 75 _ (0,0) _ T.out.1 Z3 rfl Qy ?_));refine (HW.out _).mono ?_;rintro e w1 ⟨rfl,b1⟩;have T1:=Za (T.out.next b1);clear T b1 HW;go_upto_region 3 with (fail);have O1:Hid (Ur w1 g n cp l):=Za (K9 HO.out (fun k hk=>by
  simp only [Y4,Qk] at hk;subst hk;exact T1.out.2.2.2.block _ HG.out))
 have R1:=Za (O1.out.range HN.out HV.out);go_cut [7,8] from 16 to 28 (fun s7 s8 wx=> ∃b7:Nat,s7= .pointer (some ⟨b7,0,none⟩)∧s8= .int .u64 p∧Hid (Blk wx b7 63 (Zd u)∧Zs w1.heap.size w1 wx))
 case first=>
  refine M0 (fun w'=>Zs w1.heap.size w1 w') 14 6 [0,1,2,3,4,5,6,7] (Zp _ _).drew ?_;refine Kg ?_;show wpQuiet _ _ _ _ [_,_,_,_,_,_,_,_] _;refine BL ?_;refine YJ 3 _ ⟨w.heap.size,0,none⟩ (.int .i64 i) rfl rfl rfl (fun w h=>by simp [go_sem,h]) (fun w' h=>(h.cell (p:=⟨w.heap.size,0,none⟩) T1.out.1.lt).trans ((T1.out.1.cell 0).trans Rm)) ?_;refine Qe ?_;refine GN ?_;refine JQ 63 _ g (i*7) v _ rfl rfl rfl (fun w' h=>World.rangeAt.same R1.out (h.block g O1.out.lt)) Zr rfl Ym ?_;refine Qe ?_;refine GN ?_;refine YJ 22 _ ⟨w.heap.size,1,none⟩ (.int .u64 r.am) rfl rfl rfl (fun w h=>by simp [go_sem,h]) (fun w' h=>(h.cell (p:=⟨w.heap.size,1,none⟩) T1.out.1.lt).trans (T1.out.1.cell 1)) ?_;refine Qe ?_;refine Jw 24 _ (w.heap.size+1) 24 (Zk c) _ rfl rfl rfl (fun w' h=>T1.out.2.1.below h T1.out.2.1.lt) ZC rfl XG ?_;refine Qe ?_;refine Qc ?_;have D0:Hid (Zs w1.heap.size w1 w1.drew):=Za (Zp _ _).drew;generalize w1.drew=w0 at*;refine UQ (i:=8) (k:=12) Ye Zm Zm ?_ ?_
  ·refine JZ #[.agg (Zd v),.int .u64 r.am,.agg (Zk c)] Tryz.call302 ((HA.out w0).mono ?_);rintro e w3 ⟨rfl,bb⟩;have D3:Hid (Zs w1.heap.size w1 w3):=Za (D0.out.trans (bb.mono D0.out.size));clear bb;refine ⟨_,rfl,D3.out,?_⟩;refine LY ?_;refine hfT (fun w'=>Zs w1.heap.size w1 w') (m:=5) (f:=2) [9,10,11] D3.out ?_;refine Kg ?_;refine TK ?_;refine DP ?_;refine Qc ?_;refine hfO (i:=12) ?_;refine YD rfl rfl (Kv rfl ?_);have D4:Hid (Zs w1.heap.size w1 (w3.alloc (.cells (Zd ZZ) 63))):=Za (D3.out.alloc D3.out.size _);have R4:Hid (Blk (w3.alloc (.cells (Zd ZZ) 63)) w3.heap.size 63 (Zd ZZ)):=Za (Zv _ _ _);have G4:Hid (w1.heap.size≤w3.heap.size):=Za D3.out.size;refine ⟨D4.out,?_⟩;generalize w3.alloc (.cells (Zd ZZ) 63)=w4 at*;refine LY ?_;refine hfO (i:=13) ?_;refine YD rfl rfl (wp_store_row _ _ _ rfl w3.heap.size (Zd u) rfl rfl 63 _ R4.out Ym rfl (Yx _) ?_);have Z:Hid (Blk (w4.setRow w3.heap.size (Zd u)) w3.heap.size 63 (Zd u)∧Zs w1.heap.size w1 (w4.setRow w3.heap.size (Zd u))):=Za ⟨Z6 _ _ _ _ _ _ R4.out,Xv D4.out G4.out _⟩;refine ⟨Z.out.2,?_⟩;generalize w4.setRow w3.heap.size (Zd u)=w5 at*;exact ZfR
  ·refine YD rfl rfl (Kv rfl ?_);have D3:Hid (Zs w1.heap.size w1 (w0.alloc (.cells (Zd ZZ) 63))):=Za (D0.out.alloc D0.out.size _);have R3:Hid (Blk (w0.alloc (.cells (Zd ZZ) 63)) w0.heap.size 63 (Zd ZZ)):=Za (Zv _ _ _);have G3:Hid (w1.heap.size≤w0.heap.size):=Za D0.out.size;refine ⟨D3.out,?_⟩;generalize w0.alloc (.cells (Zd ZZ) 63)=w3 at*;refine LY ?_;refine hfO (i:=8) ?_;refine JZ #[.agg (Zd v),.int .u64 r.am,.agg (Zk c)] Tryz.call302 ((HA.out w3).mono ?_);rintro e w4 ⟨rfl,bb⟩;have D4:Hid (Zs w1.heap.size w1 w4):=Za (D3.out.trans (bb.mono D3.out.size));have R4:Hid (Blk w4 w0.heap.size 63 (Zd ZZ)):=Za (R3.out.below bb R3.out.lt);clear bb;refine ⟨_,rfl,D4.out,?_⟩;refine LY ?_;refine hfT (fun w'=>Zs w1.heap.size w1 w') (m:=4) (f:=1) [9,10,11] D4.out ?_;refine Kg ?_;refine TK ?_;refine DP ?_;refine Qc ?_;refine hfO (i:=13) ?_;refine YD rfl rfl (wp_store_row _ _ _ rfl w0.heap.size (Zd u) rfl rfl 63 _ R4.out Ym rfl (Yx _) ?_);have Z:Hid (Blk (w4.setRow w0.heap.size (Zd u)) w0.heap.size 63 (Zd u)∧Zs w1.heap.size w1 (w4.setRow w0.heap.size (Zd u))):=Za ⟨Z6 _ _ _ _ _ _ R4.out,Xv D4.out G3.out _⟩;refine ⟨Z.out.2,?_⟩;generalize w4.setRow w0.heap.size (Zd u)=w5 at*;exact ZfR
 case rest=>
  obtain ⟨b7,rfl,rfl,Z⟩:=hcut;have T2:=Za (T1.out.next Z.out.2);have O2:Hid (Ur wc g n cp l):=Za (O1.out.next Z.out.2);have F2:Hid (wc.there g (i*7) 7∧Ur (wc.setCells g (i*7) (Zd u).toList) g n cp (l.set i u)):=Za (by
   have h:=O2.out;unfold Ur at h ⊢;have hn:=HN.out;subst hn;have:=Nz h HV.out u;exact ⟨this.2,this.1⟩)
  have K2:Hid (Blk (wc.setCells g (i*7) (Zd u).toList) w.heap.size 75 (ZA r)∧Blk (wc.setCells g (i*7) (Zd u).toList) (w.heap.size+2) 75 (ZA L8)∧Kept (fun k=>k=g) w (wc.setCells g (i*7) (Zd u).toList)):=Za (by
   have k:Kept (fun k=>k=g) wc (wc.setCells g (i*7) (Zd u).toList):=QF _ _ _ (ZH _ _) (.inl rfl);have hg:=HG.out;obtain ⟨h1,h2,h3,h4⟩:=T2.out;exact ⟨h1.kept k Zm,h3.kept k Zm,(YP h4).trans k (fun _ _ h=>h)⟩)
  have x0:wc.cell? ⟨w.heap.size,0,none⟩=some (.int .i64 (i:Int)):=(T2.out.1.cell 0).trans Rm;clear T1 O1 R1 HA O2;go_upto_region 5 with (first | (refine Zn rfl 63 _ rfl b7 rfl 63 _ (0,0) _ Z.out.1 Zr rfl Ym ?_) | (refine wpList_store_mid rfl 63 _ _ rfl g (i*7) (Zd u) rfl rfl F2.out.1 Ym (Yx u) ?_));have F3:=Za F2.out.2;clear Z F2 T2 x0;generalize wc.setCells g (i*7) (Zd u).toList=w3 at*;go_wp2_with (first | (refine Zn rfl 75 _ rfl w.heap.size rfl 75 _ (0,0) _ K2.out.1 Z3 rfl Qy ?_));refine (HF.out p _).mono ?_;rintro e w4 ⟨rfl,b4⟩;have K4:Hid (Blk w4 (w.heap.size+2) 75 (ZA L8)∧Kept (fun k=>k=g) w w4∧Ur w4 g n cp (l.set i u)):=Za ⟨K2.out.2.1.below b4 K2.out.2.1.lt,K2.out.2.2.trans (YP (S:=fun k=>k=g) b4) (fun _ _ h=>h),F3.out.next b4⟩;clear K2 F3 b4;go_wp2_with (first | (refine Zo rfl _ _ _ rfl (w.heap.size+2) (ZA ⟨r.ix,p⟩) rfl rfl 75 _ K4.out.1 Qy rfl (Ky _) ?_));have Y:Ur (w4.setRow (w.heap.size+2) (ZA ⟨r.ix,p⟩)) g n cp (l.set i u)∧Kept (fun k=>k=g) w (w4.setRow (w.heap.size+2) (ZA ⟨r.ix,p⟩)):=by
   have hg:=HG.out;refine ⟨K9 K4.out.2.2 (fun k hk=>?_),K4.out.2.1.setRow (.inr Zm) _⟩;simp only [Y4,Qk] at hk;subst hk;exact setRow_other _ _ _ _ Zm
  exact ZL (v:= .agg (ZA ⟨r.ix,p⟩)) (ZO (fn:=Tryz.f268) rfl _ _ (w.heap.size+2) 75 (ZA ⟨r.ix,p⟩) (0,0) _ rfl (Z6 _ _ _ _ _ _ K4.out.1) Z3 rfl Qy) rfl ⟨rfl,Y⟩
theorem fg (r:Rq)(a:Option Addr)(n cp:Nat)(l:List Yd)(c:Nat→Int)(w:Zc)(hO:w.ownsRow 0 63 7 (.slice a n cp) n (XD l))(hn:l.length=n)(hf: ∀v ∈ l,Yo v)(hr:Ga r)(hm:0≤c 5) :
  Zj Zb 268 #[.agg (ZA r),.slice a n cp,.agg (Zk c)] w fun e w'=>e= .returned (.agg (ZA ⟨r.ix,NB l r (c 5)⟩))∧w'.ownsRow 0 63 7 (.slice a n cp) n (XD (EZ l r (c 5)))∧Kept (fun k=>(Yj a n cp).ownBlock=some k) w w':=by
 by_cases h:Uz r l.length=true
 ·obtain ⟨i,v,hi,hv⟩:=aQ h;obtain ⟨_,e1,e2⟩:=fi (c 5) hi hv;have Fz:=(Zi.1 hv).1;rw [e1,e2];obtain ⟨g,rfl⟩ : ∃g,a=some ⟨g,0,none⟩:=by
   rcases hO.2 with ⟨_,h0⟩ | ⟨g,BB,cur,h1,_⟩
   ·omega
   ·injection h1 with h1 _ _;exact ⟨g,h1⟩
  exact (fj r g n cp i l v c w hO hn hi hv (hf v (ZB hv)) hr hm).mono fun e w' ⟨he,ho,k⟩=>⟨he,ho,k.more (fun i _ e=>by subst e; rfl)⟩
 ·have e1:NB l r (c 5)=0:=by unfold NB; rw [if_neg h]
  have e2:EZ l r (c 5)=l:=by unfold EZ; rw [if_neg h]
  rw [e1,e2];exact (lG r a n cp c w (by rw [←hn]; simpa using h)).mono fun e w' ⟨he,hb⟩=>⟨he,K9 hO (fun k hk=>hb.block k (hO.lt k hk).2),YP hb⟩
end
section
open Go Go.RowKit Go.Deep
theorem fB (B b n:Nat)(v:Zl)(P:List Py)(r:Rq)(w:Zc)(hO:w.ownsRow B 61 3 v n (Yl VS P))(hn:P.length=n)(hB:B≤w.heap.size)(hb:Blk w b 75 (ZA r))(h60:n≤4096) :
  Zj Zb 267 #[v,.slice (some ⟨b,0,none⟩) 1 1] w fun e w'=> ∃v',e= .returned v'∧w'.ownsRow B 61 3 v' (P++Le r.ix r.am).length (Yl VS (P++Le r.ix r.am))∧Kept (fun k=>v.ownBlock=some k) w w':=by
 have HO:=Za hO;have HN:=Za hn;have HB:=Za hb;have HS:=Za hB;have HE:=Za (fun w=>WO r w);obtain ⟨j0,aI,BM,Wd,pb⟩:=gT;have i1: ¬(0:Int)< 0:=by omega
 by_cases h0:r.am=0
 ·rw [decide_eq_true h0] at HE;have E:Hid (P++Le r.ix r.am=P):=Za (by rw [Le,if_pos h0,List.append_nil]);rw [E.out];clear hO hn hB hb h0 E;go_enter Tryz.func267,Tryz.ntmps267;go_wp2_with fail;refine wp_loop_rounds 2 ?_;rw [YT];go_wp2_with (first | (refine Zn rfl 75 _ rfl b rfl 75 _ (0,0) _ HB.out Z3 rfl Qy ?_) | (refine Zo rfl _ _ _ rfl w.heap.size (ZA r) rfl rfl 75 _ (ZG w _) Qy rfl (Ky _) ?_; rw [Zu]) | (refine Zn rfl 75 _ rfl w.heap.size rfl 75 _ (0,0) _ (ZG w _) Z3 rfl Qy ?_));refine (HE.out _).mono ?_;rintro e w1 ⟨rfl,b1⟩;have A1:Hid (Zs w.heap.size w w1):=Za (((Zp _ w).alloc (Zg _) _).trans (b1.mono ZI));clear b1;go_wp2_with fail;rw [YT];go_wp2_with fail;go_ret;refine ⟨_,rfl,?_,YP A1.out⟩;rw [HN.out];exact D9 HO.out A1.out
 ·rw [decide_eq_false h0] at HE;have E:Hid (P++Le r.ix r.am=P++[⟨r.ix,r.am,false⟩]):=Za (by rw [Le,if_neg h0]);rw [E.out];clear hO hn hB hb h0 E;go_enter Tryz.func267,Tryz.ntmps267;go_wp2_with fail;refine wp_loop_rounds 2 ?_;rw [YT];go_wp2_with (first | (refine Zn rfl 75 _ rfl b rfl 75 _ (0,0) _ HB.out Z3 rfl Qy ?_) | (refine Zo rfl _ _ _ rfl w.heap.size (ZA r) rfl rfl 75 _ (ZG w _) Qy rfl (Ky _) ?_; rw [Zu]) | (refine Zn rfl 75 _ rfl w.heap.size rfl 75 _ (0,0) _ (ZG w _) Z3 rfl Qy ?_));refine (HE.out _).mono ?_;rintro e w1 ⟨rfl,b1⟩;have K1:Hid (VL w.heap.size w.heap.size 75 (ZA r) w w1):=Za (by
   have k:=VL.new (t:=75) (cs:=ZA r) (Zp w.heap.size w) (Zg _);exact ⟨k.1.below b1 k.1.lt,k.2.1.trans (b1.mono k.2.2),Nat.le_trans k.2.2 b1.size⟩)
  have O1:Hid (w1.ownsRow B 61 3 v n (Yl VS P)):=Za (D9 HO.out K1.out.2.1);have x0:w1.cell? ⟨w.heap.size,0,none⟩=some (.int .i64 r.ix):=K1.out.1.cell 0;have x1:w1.cell? ⟨w.heap.size,1,none⟩=some (.int .u64 r.am):=K1.out.1.cell 1;clear b1 HB;go_wp2_with (first | (refine Ha rfl 61 _ rfl ⟨r.ix,r.am,false⟩ Ye ?_) | (refine NS rfl _ ⟨r.ix,r.am,false⟩ rfl rfl ?_) | (at_builtin; refine X7 _ rfl (.tmp 16) (.tmp 22) 40 rfl B 61 j0 _ 3 24 Tryz.underlying40 aI BM Wd pb (Fu _) Zm v n (Yl VS P) rfl (QI O1.out _) (some ⟨w1.heap.size,0,none⟩) 1 1 (VS ⟨r.ix,r.am,false⟩) rfl rfl (fun _=>⟨_,rfl,eP w1 _ _⟩) (Py.row_one _) UH Zm (by have:=HS.out; have:=K1.out.2.2; simp; omega) ?_; intro v1 w8 ho hg hv));have Z:Hid (w8.ownsRow B 61 3 v1 (n+1) (Yl VS (P++[⟨r.ix,r.am,false⟩]))∧Kept (fun k=>v.ownBlock=some k) w w8):=Za ⟨by rw [JP,EO]; exact ho,(YP K1.out.2.1).alloc _ |>.trans (Xu (S:=fun k=>v.ownBlock=some k) hg (fun i hi=>hi.symm)) (fun _ _ h=>h)⟩;clear ho hg hv O1 K1 x0 x1;go_wp2_with fail;rw [YT];go_wp2_with fail;go_ret;refine ⟨_,rfl,?_,Z.out.2⟩;rw [ZE,HN.out];exact Z.out.1
end
section
open Go Go.RowKit Go.Deep
structure Sp (w wr:Zc)(g9 g11:Nat)(a:Option Addr)(n cp:Nat)(v:Zl)(L:List Yd)(P:List Py)(c:Nat→Int) :Prop where
 cfg:Blk wr w.heap.size 24 (Zk c)
 aft:Blk wr g9 46 #[.slice a n cp]
 pay:Blk wr g11 40 #[v]
 own:wr.ownsRow (w.heap.size+1) 63 7 (.slice a n cp) n (XD L)
 pys:wr.ownsRow (w.heap.size+1) 61 3 v P.length (Yl VS P)
 n9:w.heap.size < g9
 n11:w.heap.size < g11
 below:Zs w.heap.size w wr
section
variable {w wr w':Zc} {g9 g11:Nat} {a:Option Addr} {n cp:Nat} {v:Zl} {L:List Yd} {P:List Py} {c:Nat→Int}
theorem Sp.next (h:Sp w wr g9 g11 a n cp v L P c)(hb:Zs wr.heap.size wr w') :Sp w w' g9 g11 a n cp v L P c:=
 ⟨h.cfg.below hb h.cfg.lt,h.aft.below hb h.aft.lt,h.pay.below hb h.pay.lt,D9 h.own hb,D9 h.pys hb,h.n9,h.n11,h.below.trans (hb.mono h.below.size)⟩
theorem Sp.not_row (h:Sp w wr g9 g11 a n cp v L P c){b t:Nat}{cs:Array Zl}(hb:Blk wr b t cs)(ht:t≠63) : ¬(Yj a n cp).ownBlock=some b:=fun e=>by
 obtain ⟨cur,h1,_⟩:=UT h.own e;exact JI hb h1 ht rfl
theorem Sp.not_pys (h:Sp w wr g9 g11 a n cp v L P c){b t:Nat}{cs:Array Zl}(hb:Blk wr b t cs)(ht:t≠61) : ¬v.ownBlock=some b:=fun e=>by
 obtain ⟨cur,h1,_⟩:=UT h.pys e;exact JI hb h1 ht rfl
theorem Sp.turned (h:Sp w wr g9 g11 a n cp v L P c){L':List Yd}(ho:w'.ownsRow 0 63 7 (.slice a n cp) n (XD L'))(k:Kept (fun i=>(Yj a n cp).ownBlock=some i) wr w') :Sp w w' g9 g11 a n cp v L' P c where
 cfg:=h.cfg.kept k (h.not_row h.cfg YU)
 aft:=h.aft.kept k (h.not_row h.aft YU)
 pay:=h.pay.kept k (h.not_row h.pay YU)
 own:=qu ho fun i hi=>by
  obtain ⟨_,_,h1⟩:=UT h.own hi;exact h1
 pys:=SF h.pys k fun i hi=>by
  obtain ⟨cur,h1,_⟩:=UT h.pys hi;exact h.not_row h1 YU
 n9:=h.n9
 n11:=h.n11
 below:=Kept.below h.below k (fun i hi=>by
  obtain ⟨_,_,h1⟩:=UT h.own hi;omega) h.below.size
theorem Sp.grown (h:Sp w wr g9 g11 a n cp v L P c){v':Zl}{P':List Py}(ho:w'.ownsRow (w.heap.size+1) 61 3 v' P'.length (Yl VS P'))(k:Kept (fun i=>v.ownBlock=some i) wr w') :
  Sp w (w'.setCell ⟨g11,0,none⟩ v') g9 g11 a n cp v' L P' c∧Blk w' g11 40 #[v]:=by
 have hp:=h.pay.kept k (h.not_pys h.pay YU);have hc:=h.cfg.kept k (h.not_pys h.cfg YU);have ha:=h.aft.kept k (h.not_pys h.aft YU);have hr:w'.ownsRow (w.heap.size+1) 63 7 (.slice a n cp) n (XD L):=SF h.own k fun i hi=>by
  obtain ⟨cur,h1,_⟩:=UT h.own hi;exact h.not_pys h1 YU
 have hb:Zs w.heap.size w w':=Kept.below h.below k (fun i hi=>by
  obtain ⟨_,_,h1⟩:=UT h.pys hi;omega) h.below.size
 refine ⟨⟨hc.far (JI hc hp YU) _,ha.far (JI ha hp YU) _,hp.set_ 0 v',FC hr (fun i hi=>?_),FC ho (fun i hi=>?_),h.n9,h.n11,hb.setCell (Nat.le_of_lt h.n11) _⟩,hp⟩
 ·obtain ⟨cur,h1,_⟩:=UT hr hi;exact Xs w' _ _ i (JI h1 hp YU)
 ·obtain ⟨cur,h1,_⟩:=UT ho hi;exact Xs w' _ _ i (JI h1 hp YU)
end
theorem I4 (w wr:Zc)(g9 g11:Nat)(a:Option Addr)(n cp:Nat)(v:Zl)(L:List Yd)(P:List Py)(c:Nat→Int)(r:Rq)(h:Sp w wr g9 g11 a n cp v L P c)(hn:L.length=n)(hf: ∀v ∈ L,Yo v)(hr:Ga r)(hm:0≤c 5)(hP:P.length≤4096) :
  Zj Zb 266 #[.agg (ZA r),.pointer (some ⟨g11,0,none⟩),.pointer (some ⟨g9,0,none⟩),.pointer (some ⟨w.heap.size,0,none⟩)] wr fun e w'=>e= .returned (.tuple #[])∧ ∃v',Sp w w' g9 g11 a n cp v' (EZ L r (c 5)) (P++Le r.ix (NB L r (c 5))) c:=by
 have H0:=Za (h.next ((Zp _ wr).alloc (Zg _) (.cells (ZA r) 75)));have HR:Hid (Blk (wr.alloc (.cells (ZA r) 75)) wr.heap.size 75 (ZA r)):=Za (Zv _ _ _);have HP:=Za (fun (W:Zc) (ho:W.ownsRow 0 63 7 (.slice a n cp) n (XD L))=>fg r a n cp L c W ho hn hf hr hm);have HPL:=Za hP;obtain ⟨x,hx⟩ : ∃x,NB L r (c 5)=x:=⟨_,rfl⟩;obtain ⟨L',hL'⟩ : ∃L',EZ L r (c 5)=L':=⟨_,rfl⟩;rw [hx,hL'] at HP;rw [hx,hL'];clear h hn hf hr hm hP hx hL';go_enter Tryz.func266,Tryz.ntmps266;go_upto_region 1 with (fail);generalize wr.alloc (.cells (ZA r) 75)=W at*;generalize wr.heap.size=rb at*;refine M0 (fun w'=>Blk w' g11 40 #[v]∧Blk w' rb 75 (ZA r)∧Blk w' g9 46 #[.slice a n cp]∧Blk w' w.heap.size 24 (Zk c)) 7 3 [0,1,2,3] ⟨H0.out.pay,HR.out,H0.out.aft,H0.out.cfg⟩ ?_;refine Kg ?_;refine Ma ?_;refine YJ 40 _ ⟨g11,0,none⟩ v rfl rfl rfl (fun w h=>by simp [go_sem,h]) (fun w' h=>h.1.cell 0) ?_;refine Qe ?_;refine Jw 75 _ rb 75 (ZA r) _ rfl rfl rfl (fun w' h=>h.2.1) Z3 rfl Qy ?_;refine Qe ?_;refine YJ 46 _ ⟨g9,0,none⟩ (.slice a n cp) rfl rfl rfl (fun w h=>by simp [go_sem,h]) (fun w' h=>h.2.2.1.cell 0) ?_;refine Qe ?_;refine Jw 24 _ w.heap.size 24 (Zk c) _ rfl rfl rfl (fun w' h=>h.2.2.2) ZC rfl XG ?_;refine Qe ?_;refine Qc ?_;have H1:=Za (H0.out.next (Zp _ W).drew);have R1:Hid (Blk W.drew rb 75 (ZA r)):=Za HR.out;clear H0 HR;generalize W.drew=w1 at*;refine hfO (i:=4) ?_;refine JZ #[.agg (ZA r),.slice a n cp,.agg (Zk c)] Tryz.call268 ((HP.out w1 (SE H1.out.own (XL _))).mono ?_);rintro e w2 ⟨rfl,ho,k⟩;have H2:=Za (H1.out.turned ho k);have R2:Hid (Blk w2 rb 75 (ZA r)):=Za (R1.out.kept k (H1.out.not_row R1.out YU));clear ho k H1 R1 HP;refine ⟨_,rfl,⟨H2.out.pay,R2.out,H2.out.aft,H2.out.cfg⟩,?_⟩;refine LY ?_;refine EE ?_;refine YD rfl rfl (rG _ ⟨r.ix,x⟩ rfl rfl ?_);have H3:=Za (H2.out.next ((Zp _ w2).alloc (Zg _) (.cells (ZA ⟨r.ix,x⟩) 75)));have R3:Hid (Blk (w2.alloc (.cells (ZA ⟨r.ix,x⟩) 75)) rb 75 (ZA r)):=Za (R2.out.alloc _);have B3:Hid (Blk (w2.alloc (.cells (ZA ⟨r.ix,x⟩) 75)) w2.heap.size 75 (ZA ⟨r.ix,x⟩)):=Za (Zv _ _ _);clear H2 R2;generalize w2.alloc (.cells (ZA ⟨r.ix,x⟩) 75)=w3 at*;generalize w2.heap.size=b3 at*;refine ⟨⟨H3.out.pay,R3.out,H3.out.aft,H3.out.cfg⟩,?_⟩;refine LY ?_;refine Mb ?_;refine JZ #[v,.slice (some ⟨b3,0,none⟩) 1 1] Tryz.call267 ((fB (w.heap.size+1) b3 P.length v P ⟨r.ix,x⟩ w3 H3.out.pys rfl (by have:=H3.out.cfg.lt; omega) B3.out HPL.out).mono ?_);rintro e w4 ⟨v',rfl,ho,k⟩;obtain ⟨a4,cp4,rfl,-,-⟩:=bI ho;have Z:=Za (H3.out.grown ho k);have S4:Hid (Blk w4 rb 75 (ZA r)∧Blk w4 g9 46 #[.slice a n cp]∧Blk w4 w.heap.size 24 (Zk c)):=Za ⟨R3.out.kept k (H3.out.not_pys R3.out YU),H3.out.aft.kept k (H3.out.not_pys H3.out.aft YU),H3.out.cfg.kept k (H3.out.not_pys H3.out.cfg YU)⟩;clear ho k H3 R3 B3;refine ⟨_,rfl,⟨Z.out.2,S4.out⟩,?_⟩;refine Bn ?_;refine ⟨by kernel_rfl,?_⟩;refine LY ?_;have z1:w4.cell? ⟨g11,0,none⟩=some v:=Z.out.2.cell 0;have z2:w4.frozen? ⟨g11,0,none⟩=false:=Z.out.2.frozen 0;go_wp2;refine GM ?_;go_wp2_with fail;go_end0;have Y:=Z.out.1;rw [ZE] at Y;exact ⟨rfl,_,Y⟩
end
section
open Go Go.RowKit Go.Deep
theorem cD (a b:Option Addr)(cp cq:Nat)(l:List Yd)(q:List Rq)(c:Nat→Int)(w:Zc)(hL:Fm w (fun _=>False) a l)(hq:Kc Rq.row 2 w (fun _=>False) b q)(hf: ∀v ∈ l,Yo v)(hfq: ∀r ∈ q,Ga r)(h5:0≤c 5)(oY:0≤c 16)(hl:l.length≤4096)(hql:q.length≤4096)(hcq:q.length≤cq) :
  Zj Zb 218 #[.slice a l.length cp,.slice b q.length cq,.agg (Zk c)] w fun e w'=> ∃v p,e= .returned (.tuple #[v,p,.int .i64 (UE c q)])∧
   w'.ownsRow w.heap.size 63 7 v l.length (XD (XQ (c 5) l (q.take (UE c q))))∧w'.ownsRow w.heap.size 61 3 p (Ks (c 5) l (q.take (UE c q))).length (Yl VS (Ks (c 5) l (q.take (UE c q))))∧Zs w.heap.size w w':=by
 obtain ⟨m,hm⟩ : ∃m,UE c q=m:=⟨_,rfl⟩;have hmq:m≤q.length:=by rw [←hm]; exact Nat.min_le_right _ _
 have kR:min (c 16) (q.length:Int)=(m:Int):=by rw [←hm]; unfold UE; omega
 have cX:max (0:Int) (m:Int)=(m:Int):=by omega
 rw [hm];have hm60:m≤4096:=by omega
 have ed:m≤cq:=by omega
 have hB:Blk (w.alloc (.cells (Zk c) 24)) w.heap.size 24 (Zk c):=Zv _ _ _;have b0:Zs w.heap.size w (w.alloc (.cells (Zk c) 24)):=(Zp _ _).alloc (Zg _) _;have HB:=Za (Zh hB b0);have HC:=Za (Od (fun _=>False) a cp l (w.alloc (.cells (Zk c) 24)) (hL.below b0) Zm);have HQ:=Za hq;have HF:=Za (fun k=>Ex (c 5) h5 (q.take k) l (fun r hr=>hfq r (List.mem_of_mem_take hr)) hf);have HFQ:=Za hfq;have HP:=Za (fun k=>OD (c 5) (q.take k) l);have HS:Hid ((w.alloc (.cells (Zk c) 24)).heap.size=w.heap.size+1):=Za ZI;obtain ⟨n,hn⟩ : ∃n,l.length=n:=⟨_,rfl⟩;obtain ⟨nq,vk⟩ : ∃nq,q.length=nq:=⟨_,rfl⟩;rw [hn] at HC ⊢;rw [vk] at kR hmq ⊢;have HN:=Za (Zh hn vk);have Ix: ∀(fn:Fn) (first cap:Array Zl) (w:Zc),(Instr.makeFunc fn first cap).run Zb w= .ok (.func fn first cap) w:=fun _ _ _ _=>rfl
 clear hB b0 hL hq hf hfq hm hn vk hcq;go_enter Tryz.func218,Tryz.ntmps218;go_upto_region 1 with (fail);generalize w.alloc (.cells (Zk c) 24)=W at*;go_wp2_with fail;refine HC.out.mono ?_;rintro e w1 ⟨v,rfl,ho,b1⟩;obtain ⟨a',BB,rfl,-,-⟩:=UB (GV ho (XL _));have H1:Hid (w1.ownsRow (w.heap.size+1) 63 7 (.slice a' n BB) n (XD l)∧Blk w1 w.heap.size 24 (Zk c)∧Zs w.heap.size w w1):=Za ⟨HS.out▸ho,HB.out.1.below b1 HB.out.1.lt,HB.out.2.trans (b1.mono HB.out.2.size)⟩;clear ho b1 HB HC HS;go_upto_region 2 with (fail);have H2:Hid ((w1.alloc (.cells #[.slice a' n BB] 46)).ownsRow (w.heap.size+1) 63 7 (.slice a' n BB) n (XD l)∧Blk (w1.alloc (.cells #[.slice a' n BB] 46)) w.heap.size 24 (Zk c)∧Zs w.heap.size w (w1.alloc (.cells #[.slice a' n BB] 46))∧
   Blk (w1.alloc (.cells #[.slice a' n BB] 46)) w1.heap.size 46 #[.slice a' n BB]∧w.heap.size < w1.heap.size):=Za ⟨QI H1.out.1 _,H1.out.2.1.alloc _,H1.out.2.2.alloc H1.out.2.2.size _,Zv _ _ _,H1.out.2.1.lt⟩
 clear H1;generalize w1.alloc (.cells #[.slice a' n BB] 46)=w2 at*;generalize w1.heap.size=g9 at*;have x16:w2.cell? ⟨w.heap.size,16,none⟩=some (.int .i64 (c 16)):=H2.out.2.1.cell 16;go_upto_region 5 with (fail);have A0:Hid (Sp w (w2.alloc (.cells #[.slice none 0 0] 40)) g9 w2.heap.size a' n BB (.slice none 0 0) (XQ (c 5) l (q.take 0)) (Ks (c 5) l (q.take 0)) c):=Za
  { cfg:=H2.out.2.1.alloc _,aft:=H2.out.2.2.2.1.alloc _,pay:=Zv _ _ _,own:=QI H2.out.1 _,pys:=Xr _ _ _ _,n9:=H2.out.2.2.2.2,n11:=H2.out.2.1.lt,below:=H2.out.2.2.1.alloc H2.out.2.2.1.size _}
 clear H2 x16 kR cX Ix;generalize w2.alloc (.cells #[.slice none 0 0] 40)=w3 at*;generalize w2.heap.size=g11 at*;go_wp2;go_loopw [14,28] (fun s14 s28 wr=> ∃(k:Nat) (v:Zl),k≤m∧s28= .int .i64 k∧Hid (Sp w wr g9 g11 a' n BB v (XQ (c 5) l (q.take k)) (Ks (c 5) l (q.take k)) c)) (fun _ s28 _=>m -(intOf s28).toNat)
 case atStart=>exact ⟨0,_,by omega,rfl,A0⟩
 case round=>
  obtain ⟨k,v,hk,rfl,HA⟩:=hrel;clear A0
  by_cases XP:k < m
  ·obtain ⟨r,hr⟩ : ∃r,q[k]?=some r:=⟨_,Zf ZJ⟩;obtain ⟨qb,qo,rfl,-,hqb,hrp⟩:=HQ.out.at hr;have HR:=Za hr;have R1:Hid (wr.rangeAt qb (qo+k*2) r.row):=Za (FJ hrp (HA.out.below.block qb hqb));have k1: ¬(k:Int)< 0:=by omega
   have k2: ¬(m:Int)≤(k:Int):=by omega
   have k3:(k:Int)< (m:Int):=by omega
   have HCO:Hid (∀w1,Sp w w1 g9 g11 a' n BB v (XQ (c 5) l (q.take k)) (Ks (c 5) l (q.take k)) c→Zj Zb 266 #[.agg (ZA r),.pointer (some ⟨g11,0,none⟩),.pointer (some ⟨g9,0,none⟩),.pointer (some ⟨w.heap.size,0,none⟩)] w1 fun e w'=>e= .returned (.tuple #[])∧ ∃v',Sp w w' g9 g11 a' n BB v' (XQ (c 5) l (q.take (k+1))) (Ks (c 5) l (q.take (k+1))) c):=Za (fun w1 h=>by
    rw [Mt HR.out,Wq,fV];refine I4 w w1 g9 g11 a' n BB v _ _ c r h (by rw [De]; exact HN.out.1) (HF.out k) (HFQ.out r (ZB HR.out)) h5 ?_;have:=HP.out k;rw [Xl] at this;omega)
   have A1:=Za (HA.out.next ((Zp _ wr).alloc (Zg _) (.cells (ZA r) 75)));clear hr hrp HA;go_wp2_with (first | (refine TC rfl 75 _ rfl qb (qo+k*2) rfl r _ R1.out Z3 rfl Qy ?_) | (refine Zo rfl _ _ _ rfl wr.heap.size (ZA r) rfl rfl 75 _ (ZG wr _) Qy rfl (Ky _) ?_; rw [Zu]) | (refine Zn rfl 75 _ rfl wr.heap.size rfl 75 _ (0,0) _ (ZG wr _) Z3 rfl Qy ?_));refine (HCO.out _ A1.out).mono ?_;rintro e w8 ⟨rfl,v',hA8⟩;have A8:=Za hA8;clear hA8 A1 R1 HCO;go_wp2;go_roundw
   case rel=>exact ⟨k+1,v',by omega,by go_num,A8⟩
   case measure=>exact Bl
  ·obtain rfl:k=m:=by omega
   clear XP;have XP: ¬k < k:=by omega
   have y9:wr.cell? ⟨g9,0,none⟩=some (.slice a' n BB):=HA.out.aft.cell 0;have y11:wr.cell? ⟨g11,0,none⟩=some v:=HA.out.pay.cell 0;go_wp2;go_quiet (fail);go_wp2;go_ret3;exact ⟨_,_,rfl,GV HA.out.own Zm,SE HA.out.pys Zm,below_drewN HA.out.below _⟩
end
section
open Go.RowKit
def dX:Nat→Nat
 | 0=>158
 | 1=>160
 | 2=>161
 | 3=>162
 | 4=>163
 | 5=>165
 | 6=>166
 | 7=>167
 | 8=>168
 | 9=>169
 | 10=>170
 | 11=>171
 | 12=>172
 | 13=>173
 | 14=>174
 | 15=>175
 | 16=>176
 | 17=>177
 | 18=>178
 | 19=>179
 | _=>0
def isI (k:Nat) :Bool:=decide (k < 2∨(10≤k∧k < 18))
def pv (bc k:Nat) :Zl:=if isI k then .pointer (some ⟨bc,k,none⟩) else .pointer none
def qv (bc k:Nat) :Zl:=if isI k then .pointer none else .pointer (some ⟨bc,k,none⟩)
def ent (bp bc k:Nat) :Array Zl:= #[pv bc k,qv bc k,.func (.func (dX k)) #[] #[.pointer (some ⟨bp,0,none⟩)]]
theorem WW (k:Nat)(hk:k < 20)(bp bc:Nat)(c:Nat→Int)(w:Zc)(hp:w.cell? ⟨bp,0,none⟩=some (.pointer (some ⟨bc,0,none⟩)))(hc:Blk w bc 24 (Zk c)) :
  Zj Zb (dX k) #[.pointer (some ⟨bp,0,none⟩)] w fun e w'=>e= .returned (.bool (Yt c k))∧ ∃n,w'=w.drewN n:=by
 have:k=0∨k=1∨k=2∨k=3∨k=4∨k=5∨k=6∨k=7∨k=8∨k=9∨k=10∨k=11∨k=12∨k=13∨k=14∨k=15∨k=16∨k=17∨k=18∨k=19:=by omega
 rcases this with rfl | rfl | rfl | rfl | rfl | rfl | rfl | rfl | rfl | rfl | rfl | rfl | rfl | rfl | rfl | rfl | rfl | rfl | rfl | rfl
 ·exact Za2 bp bc c w hp hc
 ·exact Za3 bp bc c w hp hc
 ·exact Za4 bp bc c w hp hc
 ·exact Za5 bp bc c w hp hc
 ·exact Za6 bp bc c w hp hc
 ·exact Za7 bp bc c w hp hc
 ·exact Za8 bp bc c w hp hc
 ·exact Za9 bp bc c w hp hc
 ·exact Zba bp bc c w hp hc
 ·exact Zbb bp bc c w hp hc
 ·exact vl bp bc c w hp hc
 ·exact vm bp bc c w hp hc
 ·exact vn bp bc c w hp hc
 ·exact vo bp bc c w hp hc
 ·exact vp bp bc c w hp hc
 ·exact vq bp bc c w hp hc
 ·exact vr bp bc c w hp hc
 ·exact vt bp bc c w hp hc
 ·exact vu bp bc c w hp hc
 ·exact vv bp bc c w hp hc
theorem ek (bp bc:Nat)(w:Zc) :(Xi 211 (.agg (Br bp bc)) (.int .i64 (0:Nat))).run Zb w= .ok (.agg (ent bp bc 0)) w:=by kernel_rfl
theorem en (bp bc:Nat)(w:Zc) :(Xi 211 (.agg (Br bp bc)) (.int .i64 (1:Nat))).run Zb w= .ok (.agg (ent bp bc 1)) w:=by kernel_rfl
theorem eo (bp bc:Nat)(w:Zc) :(Xi 211 (.agg (Br bp bc)) (.int .i64 (2:Nat))).run Zb w= .ok (.agg (ent bp bc 2)) w:=by kernel_rfl
theorem ew (bp bc:Nat)(w:Zc) :(Xi 211 (.agg (Br bp bc)) (.int .i64 (3:Nat))).run Zb w= .ok (.agg (ent bp bc 3)) w:=by kernel_rfl
theorem ez (bp bc:Nat)(w:Zc) :(Xi 211 (.agg (Br bp bc)) (.int .i64 (4:Nat))).run Zb w= .ok (.agg (ent bp bc 4)) w:=by kernel_rfl
theorem eC (bp bc:Nat)(w:Zc) :(Xi 211 (.agg (Br bp bc)) (.int .i64 (5:Nat))).run Zb w= .ok (.agg (ent bp bc 5)) w:=by kernel_rfl
theorem eD (bp bc:Nat)(w:Zc) :(Xi 211 (.agg (Br bp bc)) (.int .i64 (6:Nat))).run Zb w= .ok (.agg (ent bp bc 6)) w:=by kernel_rfl
theorem eE (bp bc:Nat)(w:Zc) :(Xi 211 (.agg (Br bp bc)) (.int .i64 (7:Nat))).run Zb w= .ok (.agg (ent bp bc 7)) w:=by kernel_rfl
theorem eF (bp bc:Nat)(w:Zc) :(Xi 211 (.agg (Br bp bc)) (.int .i64 (8:Nat))).run Zb w= .ok (.agg (ent bp bc 8)) w:=by kernel_rfl
theorem eG (bp bc:Nat)(w:Zc) :(Xi 211 (.agg (Br bp bc)) (.int .i64 (9:Nat))).run Zb w= .ok (.agg (ent bp bc 9)) w:=by kernel_rfl
theorem aT (bp bc:Nat)(w:Zc) :(Xi 211 (.agg (Br bp bc)) (.int .i64 (10:Nat))).run Zb w= .ok (.agg (ent bp bc 10)) w:=by kernel_rfl
theorem aU (bp bc:Nat)(w:Zc) :(Xi 211 (.agg (Br bp bc)) (.int .i64 (11:Nat))).run Zb w= .ok (.agg (ent bp bc 11)) w:=by kernel_rfl
theorem aV (bp bc:Nat)(w:Zc) :(Xi 211 (.agg (Br bp bc)) (.int .i64 (12:Nat))).run Zb w= .ok (.agg (ent bp bc 12)) w:=by kernel_rfl
theorem aW (bp bc:Nat)(w:Zc) :(Xi 211 (.agg (Br bp bc)) (.int .i64 (13:Nat))).run Zb w= .ok (.agg (ent bp bc 13)) w:=by kernel_rfl
theorem aX (bp bc:Nat)(w:Zc) :(Xi 211 (.agg (Br bp bc)) (.int .i64 (14:Nat))).run Zb w= .ok (.agg (ent bp bc 14)) w:=by kernel_rfl
theorem aY (bp bc:Nat)(w:Zc) :(Xi 211 (.agg (Br bp bc)) (.int .i64 (15:Nat))).run Zb w= .ok (.agg (ent bp bc 15)) w:=by kernel_rfl
theorem aZ (bp bc:Nat)(w:Zc) :(Xi 211 (.agg (Br bp bc)) (.int .i64 (16:Nat))).run Zb w= .ok (.agg (ent bp bc 16)) w:=by kernel_rfl
theorem a8 (bp bc:Nat)(w:Zc) :(Xi 211 (.agg (Br bp bc)) (.int .i64 (17:Nat))).run Zb w= .ok (.agg (ent bp bc 17)) w:=by kernel_rfl
theorem bd (bp bc:Nat)(w:Zc) :(Xi 211 (.agg (Br bp bc)) (.int .i64 (18:Nat))).run Zb w= .ok (.agg (ent bp bc 18)) w:=by kernel_rfl
theorem be (bp bc:Nat)(w:Zc) :(Xi 211 (.agg (Br bp bc)) (.int .i64 (19:Nat))).run Zb w= .ok (.agg (ent bp bc 19)) w:=by kernel_rfl
theorem kX (bp bc k:Nat)(hk:k < 20)(w:Zc) :(Xi 211 (.agg (Br bp bc)) (.int .i64 k)).run Zb w= .ok (.agg (ent bp bc k)) w:=by
 have:k=0∨k=1∨k=2∨k=3∨k=4∨k=5∨k=6∨k=7∨k=8∨k=9∨k=10∨k=11∨k=12∨k=13∨k=14∨k=15∨k=16∨k=17∨k=18∨k=19:=by omega
 rcases this with rfl | rfl | rfl | rfl | rfl | rfl | rfl | rfl | rfl | rfl | rfl | rfl | rfl | rfl | rfl | rfl | rfl | rfl | rfl | rfl
 ·exact ek bp bc w
 ·exact en bp bc w
 ·exact eo bp bc w
 ·exact ew bp bc w
 ·exact ez bp bc w
 ·exact eC bp bc w
 ·exact eD bp bc w
 ·exact eE bp bc w
 ·exact eF bp bc w
 ·exact eG bp bc w
 ·exact aT bp bc w
 ·exact aU bp bc w
 ·exact aV bp bc w
 ·exact aW bp bc w
 ·exact aX bp bc w
 ·exact aY bp bc w
 ·exact aZ bp bc w
 ·exact a8 bp bc w
 ·exact bd bp bc w
 ·exact be bp bc w
theorem kj (k:Nat)(hk:k < 20)(args:Array Zl)(w:Zc) :(callFunc (dX k) args).run Zb w= .ok (.enter (dX k) args) w:=by
 have:k=0∨k=1∨k=2∨k=3∨k=4∨k=5∨k=6∨k=7∨k=8∨k=9∨k=10∨k=11∨k=12∨k=13∨k=14∨k=15∨k=16∨k=17∨k=18∨k=19:=by omega
 rcases this with rfl | rfl | rfl | rfl | rfl | rfl | rfl | rfl | rfl | rfl | rfl | rfl | rfl | rfl | rfl | rfl | rfl | rfl | rfl | rfl
 ·exact Tryz.call158 args w
 ·exact Tryz.call160 args w
 ·exact Tryz.call161 args w
 ·exact Tryz.call162 args w
 ·exact Tryz.call163 args w
 ·exact Tryz.call165 args w
 ·exact Tryz.call166 args w
 ·exact Tryz.call167 args w
 ·exact Tryz.call168 args w
 ·exact Tryz.call169 args w
 ·exact Tryz.call170 args w
 ·exact Tryz.call171 args w
 ·exact Tryz.call172 args w
 ·exact Tryz.call173 args w
 ·exact Tryz.call174 args w
 ·exact Tryz.call175 args w
 ·exact Tryz.call176 args w
 ·exact Tryz.call177 args w
 ·exact Tryz.call178 args w
 ·exact Tryz.call179 args w
theorem ie (bp bc k:Nat) :(ent bp bc k).all (·.oneCell')=true:=by
 unfold ent pv qv
 cases isI k <;> simp [Value.oneCell']
theorem pL:(Tryz.prog.info? 210).map (·.size)=some 3:=by kernel_rfl
theorem j5 (c:Nat→Int)(w:Zc) :
  Zj Zb 71 #[.agg (Zk c)] w fun e w'=>e= .returned (.int .i64 (RU c))∧Zs w.heap.size w w':=by
 unfold Zk;go_enter Tryz.func71,Tryz.ntmps71;go_wp2_with (first
  | (go_at_call 118; refine (ah _ _).mono ?_; rintro e w1 ⟨rfl,ER,hbel1⟩))
 go_loopw [6] (fun v wr=> ∃k:Nat,k≤20∧v= .int .i64 (k:Int)∧Dm c k∧Blk wr w.heap.size 24 (Zk c)∧Blk wr (w.heap.size+1) 213 #[.pointer (some ⟨w.heap.size,0,none⟩)]∧Zs w.heap.size w wr) (fun v _=>(21 - intOf v).toNat)
 case atStart=>
  refine ⟨0,by omega,rfl,Hn c,(Zv w 24 (Zk c)).below hbel1 ZI,by simpa using ER,((Zp _ _).alloc (Zg _) _).trans (hbel1.mono ZI)⟩
 case round=>
  obtain ⟨k,hk,rfl,hbf,hb,hp,PH⟩:=hrel;have XP:=hb.lt;have vj:=hp.lt;clear ER hbel1
  by_cases uX:k < 20
  ·have hix: ∀W,(Xi 211 (.agg (Br (w.heap.size+1) w.heap.size)) (.int .i64 k)).run Zb W= .ok (.agg #[pv w.heap.size k,qv w.heap.size k,.func (.func (dX k)) #[] #[.pointer (some ⟨w.heap.size+1,0,none⟩)]]) W:=kX (w.heap.size+1) w.heap.size k uX;have hen:=kj k uX
   cases hr:Yt c k with
   | false=>
    have R:Hid (∀W (hp:W.cell? ⟨w.heap.size+1,0,none⟩=some (.pointer (some ⟨w.heap.size,0,none⟩))) (hc:Blk W w.heap.size 24 (Zk c)),_):=Za (fun W hp hc=>WW k uX (w.heap.size+1) w.heap.size c W hp hc);rw [hr] at R;have H:=Za (dC uX hbf hr);clear hr;go_wp2_with (first
     | (refine Zo rfl _ _ _ rfl wr.heap.size #[pv w.heap.size k,qv w.heap.size k,.func (.func (dX k)) #[] #[.pointer (some ⟨w.heap.size+1,0,none⟩)]] rfl rfl 210 _ (ZG wr _) pL rfl (ie _ _ _) ?_; rw [Zu])
     | (refine (R.out _ ((hp.alloc _).cell 0) (hb.alloc _)).mono ?_; rintro e w1 ⟨rfl,n,rfl⟩))
    go_ret;exact ⟨ret_int H.out.symm,below_drewN (PH.alloc Zm _) n⟩
   | true=>
    have R:Hid (∀W (hp:W.cell? ⟨w.heap.size+1,0,none⟩=some (.pointer (some ⟨w.heap.size,0,none⟩))) (hc:Blk W w.heap.size 24 (Zk c)),_):=Za (fun W hp hc=>WW k uX (w.heap.size+1) w.heap.size c W hp hc);rw [hr] at R;have H:=Za (Hm hbf hr);clear hr;go_wp2_with (first
     | (refine Zo rfl _ _ _ rfl wr.heap.size #[pv w.heap.size k,qv w.heap.size k,.func (.func (dX k)) #[] #[.pointer (some ⟨w.heap.size+1,0,none⟩)]] rfl rfl 210 _ (ZG wr _) pL rfl (ie _ _ _) ?_; rw [Zu])
     | (refine (R.out _ ((hp.alloc _).cell 0) (hb.alloc _)).mono ?_; rintro e w1 ⟨rfl,n,rfl⟩))
    go_roundw
    case rel=>exact ⟨k+1,by omega,by go_num,H.out,(hb.alloc _).drewN n,(hp.alloc _).drewN n,below_drewN (PH.alloc Zm _) n⟩
    case measure=>simp [intOf]; omega
  ·exact ZgA
end
section
open Go Go.RowKit Go.Deep
theorem P2 {α:Type}{la lb:List α}{k:Nat}{x y:α}(hx:la[k]?=some x)(hy:lb[k]?=some y)(h:la.take k=lb.take k) :(la.take (k+1)=lb.take (k+1) ↔ x=y):=by
 rw [YR,YR,hx,hy,h];simp
theorem Nx {α:Type}{la lb:List α}{k:Nat}{x y:α}(hx:la[k]?=some x)(hy:lb[k]?=some y)(h:x≠y) :la≠lb:=by
 rintro rfl;rw [hx] at hy;exact h (Option.some.inj hy)
theorem Y6 {w w':Zc}{b o:Nat}{cs:List Zl}(h:w.rangeAt b o cs)(hl:b < w.heap.size)(hb:Zs w.heap.size w w') :w'.rangeAt b o cs:=FJ h (hb.block b hl)
end
end Go.Proofs.YtianiiijaopdpaaGreat
