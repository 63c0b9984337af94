/- Part 11 of 31: L08Iter L08Len. -/
import Derived.Test.YtobgbcdgffgdhaaGreatZw00
import Derived.Test.YtobgbcdgffgdhaaGreatZw08
import Derived.LoopIn
import Derived.LoopNIn
import Derived.OwnWalkIn
import Derived.RangeFuncBox
import Derived.Shelf.Abstract
import Derived.TacticsInMore
namespace Go.Proofs.YtobgbcdgffgdhaaGreat
set_option linter.unusedVariables false
set_option linter.unusedSimpArgs false
set_option maxRecDepth 100000
set_option maxHeartbeats 8000000
open _root_.Array renaming replicate_succ -> XN, replicate_zero -> XO
open _root_.Go.RowKit renaming Below -> Zp
open _root_.Go.RowKit.Below renaming refl -> Zo
open _root_.List renaming append_toArray -> XY, cons_append -> Yf, length_cons -> Yc, length_nil -> Qn, map_cons -> YY, nil_append -> XZ, push_toArray -> QB, size_toArray -> Qc
open _root_.Nat renaming le_refl -> Zh, reduceAdd -> Q8, reduceSub -> JO
open _root_.Go.Proofs.Tryz renaming prog -> Zb
open _root_.Go renaming Value -> Zk, World -> Zc, undef -> Kr
open Go.Proofs.Tryz
section
open Go Go.RowKit Go.Deep Go.Shelf
attribute [local go_sem] Oper.semAt_some
def Ph (m k:Nat) :List (Fin m):=(List.finRange m).take k
theorem Pj {m k:Nat}(h:k < m) :Ph m (k+1)=Ph m k++[⟨k,h⟩]:=by
 unfold Ph;rw [List.take_add_one];simp [h]
theorem tr {m k:Nat}(h:k<=m) :(Ph m k).length=k:=by simp [Ph]; omega
theorem iP (F:Fence)(n:Nat)(hf:F.fn 211)(Ov:F.round=none)(hn:1<=n)(l Bs n₀ B m:Nat)(f:Nat->Zk)(hm:m<=4096)(hb:B < n₀)(J Jx:List (Fin m)->Zc->Prop)
  (hY: ∀pre (x:Fin m) W,J pre W->pre.length < m->YieldAt F (n - 1) Zb l #[f x.1] W fun e W'=>
   (e= .returned (.bool true)/\J (pre++[x]) W'/\Zp n₀ W W')\/(e= .returned (.bool false)/\Jx (pre++[x]) W'))
  (W:Zc) (hBs:W.cell? ⟨Bs,0,none⟩=some (.slice (some ⟨B,0,none⟩) m m)) (hc: ∀j,j < m->W.cell? ⟨B,j,none⟩=some (f j)) (h0:J [] W) :
  CallsIn F n Zb 211 #[.func (.yield l) #[] #[],.pointer (some ⟨Bs,0,none⟩)] W fun e W'=>(∃v,e= .returned v)/\
   ((∃ys,ys=Ph m m/\J ys W')\/(∃pre,(∃k,k<=m/\pre=Ph m k)/\Jx pre W')):=by
 refine callsIn_of_wp func211 rfl hf ?_ Ov;simp only [ntmps211,Qc,Yc,Qn,Q8,JO,XN,XO,QB,XY,XZ,Yf]
 gi_wp2
 gi_loopw [7] (fun i wr=> ∃k:Nat,k<=m/\i= .int .i64 k/\J (Ph m k) wr/\Zp n₀ W wr)
  (fun i _=>m -(intOf i).toNat)
 case atStart=>exact ⟨0,Nat.zero_le _,rfl,h0,Zo _ _⟩
 case round=>
  obtain ⟨k,hk,rfl,hJs,SW⟩:=hrel;have hcx:k < m->wr.cell? ⟨B,k,none⟩=some (f k):=fun h=>(SW.cell (p:=⟨B,k,none⟩) hb).trans (hc k h)
  by_cases XV:k < m
  ·obtain ⟨fn,tmps,assign,body,hy,hR⟩:=hY _ ⟨k,XV⟩ wr hJs (by rw [tr hk]; exact XV)
   dsimp only at hy
   have hcx':=hcx XV;clear hcx hc
   gi_wp2
   refine hR.mono ?_;rintro e W3 (⟨rfl,hJ3,oM⟩ | ⟨rfl,hJx3⟩)
   ·gi_wp2
    go_roundw
    case rel=>exact ⟨k+1,by omega,by simp,by rw [Pj XV]; exact hJ3,SW.trans oM⟩
    case measure=>exact VL
   ·gi_wp2
    refine tG ?_;exact ⟨⟨_,rfl⟩,.inr ⟨_,⟨k+1,by omega,(Pj XV).symm⟩,hJx3⟩⟩
  ·obtain rfl:k=m:=Zf;clear hcx hc
   gi_wp2
   go_end0;exact ⟨⟨_,rfl⟩,.inl ⟨_,rfl,hJs⟩⟩
theorem oy (F:Fence)(n:Nat)(hf:F.fn 143)(Ov:F.round=none)(a:Option Addr)(len cap:Nat)(w:Zc) :
  CallsIn F n Zb 143 #[.slice a len cap] w fun e w'=>e= .returned (.func (.func 211) #[] #[.pointer (some ⟨w.heap.size,0,none⟩)])/\w'=w.alloc (.cells #[.slice a len cap] 189):=by
 refine callsIn_of_wp func143 rfl hf ?_ Ov;simp only [ntmps143,Qc,Yc,Qn,Q8,JO,XN,XO,QB,XY,XZ,Yf]
 gi_wp2
 go_ret;exact DF
theorem wF (F:Fence)(n:Nat)(h1:F.fn 98)(hf:F.fn 143)(Ov:F.round=none)(hn:1<=n)(b len cap:Nat)(a:Option Addr)(w:Zc)(hc:w.cell? ⟨b,0,none⟩=some (.slice a len cap)) :
  CallsIn F n Zb 98 #[.pointer (some ⟨b,0,none⟩)] w fun e w'=>e= .returned (.func (.func 211) #[] #[.pointer (some ⟨w.heap.size,0,none⟩)])/\w'=w.alloc (.cells #[.slice a len cap] 189):=by
 refine callsIn_of_wp func98 rfl h1 ?_ Ov;simp only [ntmps98,Qc,Yc,Qn,Q8,JO,XN,XO,QB,XY,XZ,Yf]
 gi_wp2_with (gi_at_call 143; refine (oy F (n - 1) hf Ov _ _ _ _).mono ?_; rintro e w' ⟨rfl,rfl⟩)
 go_ret;exact DF
def nth (ss:List Zk)(j:Nat) :Zk:=ss.getD j (.slice none 0 0)
theorem rX {ss:List Zk}{j:Nat}{s:Zk}(h:ss[j]?=some s) :nth ss j=s:=by simp [nth,List.getD_eq_getElem?_getD,h]
theorem WA (F:Fence)(n:Nat)(hf:F.fn 211)(Ov:F.round=none)(hn:1<=n)(Bs n₀ b B m:Nat)(ss:List Zk)(L:List QW)(w:Zc)(hBs:Bs < w.heap.size)(hn₀:n₀<=w.heap.size)
  (hc:w.cell? ⟨Bs,0,none⟩=some (.slice (some ⟨B,0,none⟩) m m)) (hp:KL w b B m ss L) (hB:B < n₀) :
  SeqStopsK F n Zb 211 #[.pointer (some ⟨Bs,0,none⟩)] (fun x:Fin m=> #[nth ss x.1]) (Zp n₀) (fun ys=>ys=Ph m m) (fun pre=> ∃k,k<=m/\pre=Ph m k) m w:=fun l J Jx W hW _ _ hY h0=>
 iP F n hf Ov hn l Bs n₀ B m (nth ss) hp.top hB J Jx hY W ((hW.cell (p:=⟨Bs,0,none⟩) hBs).trans hc) (fun j hj=>by
  obtain ⟨s,hs⟩:=hp.get hj;rw [rX hs];exact (hW.cell (p:=⟨B,j,none⟩) hp.bks.lt).trans (hp.cells hs).2) h0
end
section
open Go Go.RowKit Go.Deep Go.Shelf
attribute [local go_sem] Oper.semAt_some
def LF {m:Nat}(c:Nat->Nat)(l:List (Fin m)) :Nat:=(l.map fun x=>c x.1).sum
theorem AX {m:Nat}(c:Nat->Nat)(l:List (Fin m))(x:Fin m) :LF c (l++[x])=LF c l+c x.1:=by simp [LF]
theorem yT {m:Nat}(c:Nat->Nat)(M:Nat)(h: ∀j,c j<=M)(l:List (Fin m)) :LF c l<=l.length*M:=by
 induction l with
 | nil=>simp [LF]
 | cons x l ih=>
  have:=h x.1;simp only [LF,YY,List.sum_cons,Yc,Nat.add_mul,Nat.one_mul] at ih ⊢;omega
theorem td {m:Nat}(c d:Nat->Nat)(l:List (Fin m)) :LF (fun j=>c j+d j) l=LF c l+LF d l:=by
 induction l with
 | nil=>rfl
 | cons x l ih=>simp only [LF,YY,List.sum_cons] at ih ⊢; omega
theorem od {m:Nat}(l:List (Fin m)) :LF (fun _=>0) l=0:=by
 induction l with
 | nil=>rfl
 | cons x l ih=>simpa [LF] using ih
theorem dD {m:Nat}(q:Nat) : ∀k,k<=m->LF (fun j=>if q=j then 1 else 0) (Ph m k)=if q < k then 1 else 0
 | 0,_=>by simp [LF,Ph]
 | k+1,h=>by
  rw [Pj Zf,AX,dD q k Zf]
  by_cases h1:q < k
  ·have: ¬q=k:=Zf;simp [h1,this]; omega
  ·by_cases h2:q=k <;> simp [h1,h2]<;> omega
theorem th (n:Nat)(hn:1<=n) : ∀L:List QW,LF (fun j=>(bk n L j).length) (Ph n n)=L.length
 | []=>od _
 | e::L=>by
  obtain ⟨q,hq⟩ : ∃q:Nat,e.1%(n:Int)=(q:Int):=⟨(e.1%(n:Int)).toNat,by have:=Int.emod_nonneg e.1 (b:=(n:Int)) Zf; omega⟩;have hqn:q < n:=by have:=Int.emod_lt_of_pos e.1 (b:=(n:Int)) Zf; omega
  have hf:(fun j=>(bk n (e::L) j).length)=fun j=>(if q=j then 1 else 0)+(bk n L j).length:=by
   funext j
   unfold bk
   by_cases h:q=j
   ·subst h;rw [List.filter_cons_of_pos (by simp [hq])];simp; omega
   ·rw [List.filter_cons_of_neg (by simp [hq]; omega)];simp [h]
  rw [hf,td,dD q n (Zh _),th n hn L,if_pos hqn];simp; omega
theorem Zdn (F:Fence)(n:Nat)(L1:F.fn 51)(h25:F.fn 98)(h30:F.fn 143)(h33:F.fn 211)(Ov:F.round=none)(hn:4<=n)(b B m:Nat)(ss:List Zk)(L:List QW)(w:Zc)(hp:KL w b B m ss L)(hL:L.length<=100000) :
  CallsIn F n Zb 51 #[.pointer (some ⟨b,0,none⟩)] w fun e W'=>e= .returned (.int .i64 L.length)/\Zp w.heap.size w W':=by
 have h1:1<=n:=Zf;refine callsIn_of_wp_marks func51 rfl L1 ?_ Ov;have x0:=ZD (.cells #[.int .i64 0] 3) (hp.own.cell 0);simp only [ntmps51,Qc,Yc,Qn,Q8,JO,XN,XO,QB,XY,XZ,Yf]
 gi_wp2_with (gi_at_call 98; refine (wF F (n - 1) h25 h30 Ov Zf b m m (some ⟨B,0,none⟩) _ x0).mono ?_; rintro e w' ⟨rfl,rfl⟩)
 have bS:=Boxed.new w 3 (.int .i64 0);have bN:=Boxed.new (w.alloc (.cells #[.int .i64 0] 3)) 189 (.slice (some ⟨B,0,none⟩) m m);rw [World.size_alloc] at bN;have hB0:Zp w.heap.size w ((w.alloc (.cells #[.int .i64 0] 3)).alloc (.cells #[.slice (some ⟨B,0,none⟩) m m] 189)):=((Zo _ w).alloc (Zh _) _).alloc ZE _;have mG:KL ((w.alloc (.cells #[.int .i64 0] 3)).alloc (.cells #[.slice (some ⟨B,0,none⟩) m m] 189)) b B m ss L:=hp.same (hB0.block _ hp.own.lt) (hB0.block _ hp.bks.lt) (fun s hs i hi=>hB0.block _ (hp.lt hs hi));refine wpIn_rangeFunc_ownG Ov h1 (gf:=211) (lb:= #[.pointer (some ⟨w.heap.size+1,0,none⟩)]) rfl h33 (enters_of func211 ZC rfl)
  (WA F (n - 1) h33 Ov Zf (w.heap.size+1) w.heap.size b B m ss L _ ZE Xl bN.cell mG hp.bks.lt) belowK_t (belowK_b Xl) (Zo _ _) (fun _=>rfl)
  (fun pre W=>(W.cell? ⟨w.heap.size,0,none⟩=some (.int .i64 (LF (fun j=>(bk m L j).length) pre))/\W.frozen? ⟨w.heap.size,0,none⟩=false)/\Zp w.heap.size w W)
  (fun _ _ _=>False)
  (OwnFrom.and (Own.from (fun s A B row hs hg hr=>⟨cell_kept hs.1 hg hr,(frozen_kept hs.1 hg hr).trans hs.2⟩) _) (ownFrom_below (Zh _) Xl))
  (fun _ _ _ _ _ hs _ _=>hs)
  ⟨⟨(bS.alloc _).cell,(bS.alloc _).frozen⟩,hB0⟩
  (fun x=> { tmps:= #[.pointer (some ⟨b,0,none⟩),Kr,.int .i64 0,.pointer (some ⟨w.heap.size,0,none⟩),nth ss x.1,.pointer (some ⟨b,0,none⟩),.func (.func 211) #[] #[.pointer (some ⟨w.heap.size+1,0,none⟩)],nth ss x.1,Kr,Kr,Kr,Kr,Kr],defers:= []}) ?assign ?body ?done ?stop
 case assign=>
  intro l x W K hK
  gi_wp2
  exact hK
 case body=>
  rintro l pre x W ⟨⟨hc,hf⟩,hB⟩ hpl;obtain ⟨s,hs⟩:=hp.get x.2;have hq:=Cv m L x.1;obtain ⟨a,cp,rfl,qV,qW⟩:=Ef (hp.row x.1 s hs);have hnt:=rX hs;have MJ:=yT (fun j=>(bk m L j).length) 100000 (fun j=>Nat.le_trans (Cv m L j) hL) pre;have htop:=hp.top;have DU:=AX (fun j=>(bk m L j).length) pre x;obtain ⟨q,rk⟩:=ZT ((bk m L x.1).length);obtain ⟨t,hte⟩ : ∃t,LF (fun j=>(bk m L j).length) pre=t:=⟨_,rfl⟩;try dsimp only at DU
  rw [rk,hte] at DU;rw [rk] at hnt hq qV;rw [hte] at hc MJ;have hpl2:pre.length*100000<=4096*100000:=Nat.mul_le_mul_right _ Zf;have dZ:=Za DU;clear DU hs rk hte;unfold maxLen at qW;try dsimp only
  rw [hnt]
  gi_wp2
  exact ⟨(KeepsOthers.setCell _ _ _).from _,(Zo w.heap.size W).setCell (p:=⟨w.heap.size,0,none⟩) (Zh _) _,⟨by rw [dZ.o]; exact World.cell?_setCell_same' _ _ _ (by rw [hc]; rfl),by rw [World.frozen?_setCell]; exact hf⟩,hB.setCell (p:=⟨w.heap.size,0,none⟩) (Zh _) _⟩
 case done=>
  rintro D ys W hD rfl ⟨⟨hc,_⟩,hB⟩ hK;rw [th m hp.pos] at hc
  gi_wp2
  refine ⟨by simp,.inl ⟨_,_,rfl,run_takeDeferred hK,?_⟩⟩;exact ⟨_,results_tmp rfl _ _ _,rfl,hB.trans (belowK_b (w:=w) (Zh _) W D _ _ (by simp at hD; omega) hK rfl rfl)⟩
 case stop=>
  rintro D c pre W _ _ h _;exact h.elim
theorem gl (b n:Nat)(S:Nat->Prop)(L:List QW)(w:Zc)(h:Gx w b S n L)(hL:L.length<=100000) :
  Z3 51 #[.pointer (some ⟨b,0,none⟩)] w (.int .i64 L.length):=by
 obtain ⟨B,ss,hp,-⟩:=h;exact callsIn_wide.1 (Zdn Fence.wide 4 trivial trivial trivial trivial rfl (Zh _) b B n ss L w hp hL)
end
end Go.Proofs.YtobgbcdgffgdhaaGreat
