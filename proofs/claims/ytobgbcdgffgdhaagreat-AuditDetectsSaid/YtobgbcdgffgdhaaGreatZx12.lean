/- Part 12 of 34: L08Iter L08Len. -/
import Derived.Test.YtobgbcdgffgdhaaGreatZx00
import Derived.Test.YtobgbcdgffgdhaaGreatZx09
import Derived.LoopIn
import Derived.LoopNIn
import Derived.OwnWalkIn
import Derived.RangeFuncBox
import Derived.Shelf.Abstract
import Derived.TacticsInMore
namespace Go.Proofs.YtobgbcdgffgdhaaGreat
set_option linter.unusedVariables false
set_option linter.unusedSimpArgs false
set_option maxRecDepth 100000
set_option maxHeartbeats 8000000
open _root_.Array renaming replicate_succ -> X9, replicate_zero -> Qb
open _root_.Go.RowKit renaming Below -> Zp
open _root_.Go.RowKit.Below renaming refl -> Zn
open _root_.List renaming append_toArray -> Qn, cons_append -> Yf, length_cons -> Yg, length_nil -> QK, map_cons -> Xa, nil_append -> Qo, push_toArray -> QV, size_toArray -> Qt
open _root_.Nat renaming le_refl -> Zh, reduceAdd -> Jo, reduceSub -> J6
open _root_.Go.Proofs.Tryz renaming prog -> Zb
open _root_.Go renaming Value -> Zl, World -> Zc, undef -> KJ
open Go.Proofs.Tryz
section
open Go Go.RowKit Go.Deep Go.Shelf
attribute [local go_sem] Oper.semAt_some
def R8 (m k:Nat) :List (Fin m):=(List.finRange m).take k
theorem R9 {m k:Nat}(h:k < m) :R8 m (k+1)=R8 m k++[⟨k,h⟩]:=by
 unfold R8;rw [List.take_add_one];simp [h]
theorem yo {m k:Nat}(h:k<=m) :(R8 m k).length=k:=by simp [R8]; omega
theorem mE (F:Fence)(n:Nat)(hf:F.fn 211)(Rf:F.round=none)(hn:1<=n)(l Bs n₀ B m:Nat)(f:Nat->Zl)(hm:m<=4096)(hb:B < n₀)(J Jx:List (Fin m)->Zc->Prop)
  (hY: ∀pre (x:Fin m) W,J pre W->pre.length < m->YieldAt F (n - 1) Zb l #[f x.1] W fun e W'=>
   (e= .returned (.bool true)/\J (pre++[x]) W'/\Zp n₀ W W')\/(e= .returned (.bool false)/\Jx (pre++[x]) W'))
  (W:Zc) (hBs:W.cell? ⟨Bs,0,none⟩=some (.slice (some ⟨B,0,none⟩) m m)) (hc: ∀j,j < m->W.cell? ⟨B,j,none⟩=some (f j)) (h0:J [] W) :
  CallsIn F n Zb 211 #[.func (.yield l) #[] #[],.pointer (some ⟨Bs,0,none⟩)] W fun e W'=>(∃v,e= .returned v)/\
   ((∃ys,ys=R8 m m/\J ys W')\/(∃pre,(∃k,k<=m/\pre=R8 m k)/\Jx pre W')):=by
 refine callsIn_of_wp func211 rfl hf ?_ Rf;simp only [ntmps211,Qt,Yg,QK,Jo,J6,X9,Qb,QV,Qn,Qo,Yf]
 gi_wp2
 gi_loopw [7] (fun i wr=> ∃k:Nat,k<=m/\i= .int .i64 k/\J (R8 m k) wr/\Zp n₀ W wr)
  (fun i _=>m -(intOf i).toNat)
 case atStart=>exact ⟨0,Nat.zero_le _,rfl,h0,Zn _ _⟩
 case round=>
  obtain ⟨k,hk,rfl,hJs,Af⟩:=hrel;have hcx:k < m->wr.cell? ⟨B,k,none⟩=some (f k):=fun h=>(Af.cell (p:=⟨B,k,none⟩) hb).trans (hc k h)
  by_cases XJ:k < m
  ·obtain ⟨fn,tmps,assign,body,hy,hR⟩:=hY _ ⟨k,XJ⟩ wr hJs (by rw [yo hk]; exact XJ)
   dsimp only at hy
   have hcx':=hcx XJ;clear hcx hc
   gi_wp2
   refine hR.mono ?_;rintro e W3 (⟨rfl,hJ3,tv⟩ | ⟨rfl,hJx3⟩)
   ·gi_wp2
    go_roundw
    case rel=>exact ⟨k+1,by omega,by simp,by rw [R9 XJ]; exact hJ3,Af.trans tv⟩
    case measure=>exact KX
   ·gi_wp2
    refine yC ?_;exact ⟨⟨_,rfl⟩,.inr ⟨_,⟨k+1,by omega,(R9 XJ).symm⟩,hJx3⟩⟩
  ·obtain rfl:k=m:=Zf;clear hcx hc
   gi_wp2
   go_end0;exact ⟨⟨_,rfl⟩,.inl ⟨_,rfl,hJs⟩⟩
theorem sX (F:Fence)(n:Nat)(hf:F.fn 143)(Rf:F.round=none)(a:Option Addr)(len cap:Nat)(w:Zc) :
  CallsIn F n Zb 143 #[.slice a len cap] w fun e w'=>e= .returned (.func (.func 211) #[] #[.pointer (some ⟨w.heap.size,0,none⟩)])/\w'=w.alloc (.cells #[.slice a len cap] 189):=by
 refine callsIn_of_wp func143 rfl hf ?_ Rf;simp only [ntmps143,Qt,Yg,QK,Jo,J6,X9,Qb,QV,Qn,Qo,Yf]
 gi_wp2
 go_ret;exact Gw
theorem ZbE (F:Fence)(n:Nat)(h1:F.fn 98)(hf:F.fn 143)(Rf:F.round=none)(hn:1<=n)(b len cap:Nat)(a:Option Addr)(w:Zc)(hc:w.cell? ⟨b,0,none⟩=some (.slice a len cap)) :
  CallsIn F n Zb 98 #[.pointer (some ⟨b,0,none⟩)] w fun e w'=>e= .returned (.func (.func 211) #[] #[.pointer (some ⟨w.heap.size,0,none⟩)])/\w'=w.alloc (.cells #[.slice a len cap] 189):=by
 refine callsIn_of_wp func98 rfl h1 ?_ Rf;simp only [ntmps98,Qt,Yg,QK,Jo,J6,X9,Qb,QV,Qn,Qo,Yf]
 gi_wp2_with (gi_at_call 143; refine (sX F (n - 1) hf Rf _ _ _ _).mono ?_; rintro e w' ⟨rfl,rfl⟩)
 go_ret;exact Gw
def nth (ss:List Zl)(j:Nat) :Zl:=ss.getD j (.slice none 0 0)
theorem xa {ss:List Zl}{j:Nat}{s:Zl}(h:ss[j]?=some s) :nth ss j=s:=by simp [nth,List.getD_eq_getElem?_getD,h]
theorem CW (F:Fence)(n:Nat)(hf:F.fn 211)(Rf:F.round=none)(hn:1<=n)(Bs n₀ b B m:Nat)(ss:List Zl)(L:List QZ)(w:Zc)(hBs:Bs < w.heap.size)(hn₀:n₀<=w.heap.size)
  (hc:w.cell? ⟨Bs,0,none⟩=some (.slice (some ⟨B,0,none⟩) m m)) (hp:Vj w b B m ss L) (hB:B < n₀) :
  SeqStopsK F n Zb 211 #[.pointer (some ⟨Bs,0,none⟩)] (fun x:Fin m=> #[nth ss x.1]) (Zp n₀) (fun ys=>ys=R8 m m) (fun pre=> ∃k,k<=m/\pre=R8 m k) m w:=fun l J Jx W hW _ _ hY h0=>
 mE F n hf Rf hn l Bs n₀ B m (nth ss) hp.top hB J Jx hY W ((hW.cell (p:=⟨Bs,0,none⟩) hBs).trans hc) (fun j hj=>by
  obtain ⟨s,hs⟩:=hp.get hj;rw [xa hs];exact (hW.cell (p:=⟨B,j,none⟩) hp.bks.lt).trans (hp.cells hs).2) h0
end
section
open Go Go.RowKit Go.Deep Go.Shelf
attribute [local go_sem] Oper.semAt_some
def MZ {m:Nat}(c:Nat->Nat)(l:List (Fin m)) :Nat:=(l.map fun x=>c x.1).sum
theorem aC {m:Nat}(c:Nat->Nat)(l:List (Fin m))(x:Fin m) :MZ c (l++[x])=MZ c l+c x.1:=by simp [MZ]
theorem Zdu {m:Nat}(c:Nat->Nat)(M:Nat)(h: ∀j,c j<=M)(l:List (Fin m)) :MZ c l<=l.length*M:=by
 induction l with
 | nil=>simp [MZ]
 | cons x l ih=>
  have:=h x.1;simp only [MZ,Xa,List.sum_cons,Yg,Nat.add_mul,Nat.one_mul] at ih ⊢;omega
theorem yd {m:Nat}(c d:Nat->Nat)(l:List (Fin m)) :MZ (fun j=>c j+d j) l=MZ c l+MZ d l:=by
 induction l with
 | nil=>rfl
 | cons x l ih=>simp only [MZ,Xa,List.sum_cons] at ih ⊢; omega
theorem sK {m:Nat}(l:List (Fin m)) :MZ (fun _=>0) l=0:=by
 induction l with
 | nil=>rfl
 | cons x l ih=>simpa [MZ] using ih
theorem iU {m:Nat}(q:Nat) : ∀k,k<=m->MZ (fun j=>if q=j then 1 else 0) (R8 m k)=if q < k then 1 else 0
 | 0,_=>by simp [MZ,R8]
 | k+1,h=>by
  rw [R9 Zf,aC,iU q k Zf]
  by_cases h1:q < k
  ·have: ¬q=k:=Zf;simp [h1,this]; omega
  ·by_cases h2:q=k <;> simp [h1,h2]<;> omega
theorem yf (n:Nat)(hn:1<=n) : ∀L:List QZ,MZ (fun j=>(bk n L j).length) (R8 n n)=L.length
 | []=>sK _
 | e::L=>by
  obtain ⟨q,hq⟩ : ∃q:Nat,e.1%(n:Int)=(q:Int):=⟨(e.1%(n:Int)).toNat,by have:=Int.emod_nonneg e.1 (b:=(n:Int)) Zf; omega⟩;have hqn:q < n:=by have:=Int.emod_lt_of_pos e.1 (b:=(n:Int)) Zf; omega
  have hf:(fun j=>(bk n (e::L) j).length)=fun j=>(if q=j then 1 else 0)+(bk n L j).length:=by
   funext j
   unfold bk
   by_cases h:q=j
   ·subst h;rw [List.filter_cons_of_pos (by simp [hq])];simp; omega
   ·rw [List.filter_cons_of_neg (by simp [hq]; omega)];simp [h]
  rw [hf,yd,iU q n (Zh _),yf n hn L,if_pos hqn];simp; omega
theorem ZhW (F:Fence)(n:Nat)(L9:F.fn 51)(h25:F.fn 98)(h30:F.fn 143)(h33:F.fn 211)(Rf:F.round=none)(hn:4<=n)(b B m:Nat)(ss:List Zl)(L:List QZ)(w:Zc)(hp:Vj w b B m ss L)(hL:L.length<=100000) :
  CallsIn F n Zb 51 #[.pointer (some ⟨b,0,none⟩)] w fun e W'=>e= .returned (.int .i64 L.length)/\Zp w.heap.size w W':=by
 have h1:1<=n:=Zf;refine callsIn_of_wp_marks func51 rfl L9 ?_ Rf;have x0:=ZJ (.cells #[.int .i64 0] 3) (hp.own.cell 0);simp only [ntmps51,Qt,Yg,QK,Jo,J6,X9,Qb,QV,Qn,Qo,Yf]
 gi_wp2_with (gi_at_call 98; refine (ZbE F (n - 1) h25 h30 Rf Zf b m m (some ⟨B,0,none⟩) _ x0).mono ?_; rintro e w' ⟨rfl,rfl⟩)
 have bS:=Boxed.new w 3 (.int .i64 0);have bN:=Boxed.new (w.alloc (.cells #[.int .i64 0] 3)) 189 (.slice (some ⟨B,0,none⟩) m m);rw [World.size_alloc] at bN;have hB0:Zp w.heap.size w ((w.alloc (.cells #[.int .i64 0] 3)).alloc (.cells #[.slice (some ⟨B,0,none⟩) m m] 189)):=((Zn _ w).alloc (Zh _) _).alloc ZE _;have rj:Vj ((w.alloc (.cells #[.int .i64 0] 3)).alloc (.cells #[.slice (some ⟨B,0,none⟩) m m] 189)) b B m ss L:=hp.same (hB0.block _ hp.own.lt) (hB0.block _ hp.bks.lt) (fun s hs i hi=>hB0.block _ (hp.lt hs hi));refine wpIn_rangeFunc_ownG Rf h1 (gf:=211) (lb:= #[.pointer (some ⟨w.heap.size+1,0,none⟩)]) rfl h33 (enters_of func211 ZC rfl)
  (CW F (n - 1) h33 Rf Zf (w.heap.size+1) w.heap.size b B m ss L _ ZE Xo bN.cell rj hp.bks.lt) belowK_t (belowK_b Xo) (Zn _ _) (fun _=>rfl)
  (fun pre W=>(W.cell? ⟨w.heap.size,0,none⟩=some (.int .i64 (MZ (fun j=>(bk m L j).length) pre))/\W.frozen? ⟨w.heap.size,0,none⟩=false)/\Zp w.heap.size w W)
  (fun _ _ _=>False)
  (OwnFrom.and (Own.from (fun s A B row hs hg hr=>⟨cell_kept hs.1 hg hr,(frozen_kept hs.1 hg hr).trans hs.2⟩) _) (ownFrom_below (Zh _) Xo))
  (fun _ _ _ _ _ hs _ _=>hs)
  ⟨⟨(bS.alloc _).cell,(bS.alloc _).frozen⟩,hB0⟩
  (fun x=> { tmps:= #[.pointer (some ⟨b,0,none⟩),KJ,.int .i64 0,.pointer (some ⟨w.heap.size,0,none⟩),nth ss x.1,.pointer (some ⟨b,0,none⟩),.func (.func 211) #[] #[.pointer (some ⟨w.heap.size+1,0,none⟩)],nth ss x.1,KJ,KJ,KJ,KJ,KJ],defers:= []}) ?assign ?body ?done ?stop
 case assign=>
  intro l x W K hK
  gi_wp2
  exact hK
 case body=>
  rintro l pre x W ⟨⟨hc,hf⟩,hB⟩ hpl;obtain ⟨s,hs⟩:=hp.get x.2;have hq:=bu m L x.1;obtain ⟨a,cp,rfl,vC,vD⟩:=FD (hp.row x.1 s hs);have hnt:=xa hs;have MB:=Zdu (fun j=>(bk m L j).length) 100000 (fun j=>Nat.le_trans (bu m L j) hL) pre;have htop:=hp.top;have Ff:=aC (fun j=>(bk m L j).length) pre x;obtain ⟨q,wg⟩:=ZR ((bk m L x.1).length);obtain ⟨t,hte⟩ : ∃t,MZ (fun j=>(bk m L j).length) pre=t:=⟨_,rfl⟩;try dsimp only at Ff
  rw [wg,hte] at Ff;rw [wg] at hnt hq vC;rw [hte] at hc MB;have hpl2:pre.length*100000<=4096*100000:=Nat.mul_le_mul_right _ Zf;have pH:=Za Ff;clear Ff hs wg hte;unfold maxLen at vD;try dsimp only
  rw [hnt]
  gi_wp2
  exact ⟨(KeepsOthers.setCell _ _ _).from _,(Zn w.heap.size W).setCell (p:=⟨w.heap.size,0,none⟩) (Zh _) _,⟨by rw [pH.o]; exact World.cell?_setCell_same' _ _ _ (by rw [hc]; rfl),by rw [World.frozen?_setCell]; exact hf⟩,hB.setCell (p:=⟨w.heap.size,0,none⟩) (Zh _) _⟩
 case done=>
  rintro D ys W hD rfl ⟨⟨hc,_⟩,hB⟩ hK;rw [yf m hp.pos] at hc
  gi_wp2
  refine ⟨by simp,.inl ⟨_,_,rfl,run_takeDeferred hK,?_⟩⟩;exact ⟨_,results_tmp rfl _ _ _,rfl,hB.trans (belowK_b (w:=w) (Zh _) W D _ _ (by simp at hD; omega) hK rfl rfl)⟩
 case stop=>
  rintro D c pre W _ _ h _;exact h.elim
theorem ld (b n:Nat)(S:Nat->Prop)(L:List QZ)(w:Zc)(h:NJ w b S n L)(hL:L.length<=100000) :
  Z3 51 #[.pointer (some ⟨b,0,none⟩)] w (.int .i64 L.length):=by
 obtain ⟨B,ss,hp,-⟩:=h;exact callsIn_wide.1 (ZhW Fence.wide 4 trivial trivial trivial trivial rfl (Zh _) b B n ss L w hp hL)
end
end Go.Proofs.YtobgbcdgffgdhaaGreat
