/- Part 10 of 29: L08Iter L08Len. -/
import Derived.Test.YtianiiijaopdpaaGreatZy00
import Derived.Test.YtianiiijaopdpaaGreatZy07
import Derived.LoopIn
import Derived.LoopNIn
import Derived.OwnWalkIn
import Derived.RangeFuncBox
import Derived.Shelf.Abstract
import Derived.TacticsInMore
namespace Go.Proofs.YtianiiijaopdpaaGreat
set_option linter.unusedVariables false
set_option linter.unusedSimpArgs false
set_option maxRecDepth 100000
set_option maxHeartbeats 8000000
open _root_.Array renaming replicate_succ → QP, replicate_zero → QQ
open _root_.Go.RowKit renaming Below → Zs
open _root_.Go.RowKit.Below renaming refl → Zp
open _root_.List renaming append_toArray → Ja, cons_append → Yh, length_cons → Yp, length_nil → Jr, map_cons → Y2, nil_append → QY, push_toArray → JK, size_toArray → Jh
open _root_.Nat renaming le_refl → Zg, reduceAdd → J7, reduceSub → Vn
open _root_.Go.Proofs.Tryz renaming prog → Zb
open _root_.Go renaming Value → Zl, World → Zc, undef → Vm
section
open Go Go.RowKit Go.Deep Go.Shelf
attribute [local go_sem] Oper.semAt_some
def OG (m k:Nat) :List (Fin m):=(List.finRange m).take k
theorem OH {m k:Nat}(h:k < m) :OG m (k+1)=OG m k++[⟨k,h⟩]:=by
 unfold OG;rw [List.take_add_one];simp [h]
theorem ru {m k:Nat}(h:k≤m) :(OG m k).length=k:=by simp [OG]; omega
theorem gb (F:Fence)(n:Nat)(hf:F.fn 233)(O4:F.round=none)(hn:1≤n)(l Bs n₀ B m:Nat)(f:Nat→Zl)(hm:m≤4096)(hb:B < n₀)(J Jx:List (Fin m)→Zc→Prop)
  (hY: ∀pre (x:Fin m) W,J pre W→pre.length < m→YieldAt F (n - 1) Zb l #[f x.1] W fun e W'=>
   (e= .returned (.bool true)∧J (pre++[x]) W'∧Zs n₀ W W')∨(e= .returned (.bool false)∧Jx (pre++[x]) W'))
  (W:Zc) (hBs:W.cell? ⟨Bs,0,none⟩=some (.slice (some ⟨B,0,none⟩) m m)) (hc: ∀j,j < m→W.cell? ⟨B,j,none⟩=some (f j)) (h0:J [] W) :
  CallsIn F n Zb 233 #[.func (.yield l) #[] #[],.pointer (some ⟨Bs,0,none⟩)] W fun e W'=>(∃v,e= .returned v)∧
   ((∃ys,ys=OG m m∧J ys W')∨(∃pre,(∃k,k≤m∧pre=OG m k)∧Jx pre W')):=by
 refine callsIn_of_wp Tryz.func233 rfl hf ?_ O4;simp only [Tryz.ntmps233,Jh,Yp,Jr,J7,Vn,QP,QQ,JK,Ja,QY,Yh]
 gi_wp2
 gi_loopw [7] (fun i wr=> ∃k:Nat,k≤m∧i= .int .i64 k∧J (OG m k) wr∧Zs n₀ W wr)
  (fun i _=>m -(intOf i).toNat)
 case atStart=>exact ⟨0,Nat.zero_le _,rfl,h0,Zp _ _⟩
 case round=>
  obtain ⟨k,hk,rfl,hJs,WV⟩:=hrel;have hcx:k < m→wr.cell? ⟨B,k,none⟩=some (f k):=fun h=>(WV.cell (p:=⟨B,k,none⟩) hb).trans (hc k h)
  by_cases XP:k < m
  ·obtain ⟨fn,tmps,assign,body,hy,hR⟩:=hY _ ⟨k,XP⟩ wr hJs (by rw [ru hk]; exact XP)
   dsimp only at hy
   have hcx':=hcx XP;clear hcx hc
   gi_wp2
   refine hR.mono ?_;rintro e W3 (⟨rfl,hJ3,mQ⟩ | ⟨rfl,hJx3⟩)
   ·gi_wp2
    go_roundw
    case rel=>exact ⟨k+1,by omega,by simp,by rw [OH XP]; exact hJ3,WV.trans mQ⟩
    case measure=>exact Bl
   ·gi_wp2
    refine rK ?_;exact ⟨⟨_,rfl⟩,.inr ⟨_,⟨k+1,by omega,(OH XP).symm⟩,hJx3⟩⟩
  ·obtain rfl:k=m:=by omega
   clear hcx hc
   gi_wp2
   go_end0;exact ⟨⟨_,rfl⟩,.inl ⟨_,rfl,hJs⟩⟩
theorem mA (F:Fence)(n:Nat)(hf:F.fn 157)(O4:F.round=none)(a:Option Addr)(len cap:Nat)(w:Zc) :
  CallsIn F n Zb 157 #[.slice a len cap] w fun e w'=>e= .returned (.func (.func 233) #[] #[.pointer (some ⟨w.heap.size,0,none⟩)])∧w'=w.alloc (.cells #[.slice a len cap] 222):=by
 refine callsIn_of_wp Tryz.func157 rfl hf ?_ O4;simp only [Tryz.ntmps157,Jh,Yp,Jr,J7,Vn,QP,QQ,JK,Ja,QY,Yh]
 gi_wp2
 go_ret;exact Hd
theorem uJ (F:Fence)(n:Nat)(h1:F.fn 115)(hf:F.fn 157)(O4:F.round=none)(hn:1≤n)(b len cap:Nat)(a:Option Addr)(w:Zc)(hc:w.cell? ⟨b,0,none⟩=some (.slice a len cap)) :
  CallsIn F n Zb 115 #[.pointer (some ⟨b,0,none⟩)] w fun e w'=>e= .returned (.func (.func 233) #[] #[.pointer (some ⟨w.heap.size,0,none⟩)])∧w'=w.alloc (.cells #[.slice a len cap] 222):=by
 refine callsIn_of_wp Tryz.func115 rfl h1 ?_ O4;simp only [Tryz.ntmps115,Jh,Yp,Jr,J7,Vn,QP,QQ,JK,Ja,QY,Yh]
 gi_wp2_with (gi_at_call 157; refine (mA F (n - 1) hf O4 _ _ _ _).mono ?_; rintro e w' ⟨rfl,rfl⟩)
 go_ret;exact Hd
def nth (ss:List Zl)(j:Nat) :Zl:=ss.getD j (.slice none 0 0)
theorem qm {ss:List Zl}{j:Nat}{s:Zl}(h:ss[j]?=some s) :nth ss j=s:=by simp [nth,List.getD_eq_getElem?_getD,h]
theorem TY (F:Fence)(n:Nat)(hf:F.fn 233)(O4:F.round=none)(hn:1≤n)(Bs n₀ b B m:Nat)(ss:List Zl)(L:List QT)(w:Zc)(hBs:Bs < w.heap.size)(hn₀:n₀≤w.heap.size)
  (hc:w.cell? ⟨Bs,0,none⟩=some (.slice (some ⟨B,0,none⟩) m m)) (hp:Vi w b B m ss L) (hB:B < n₀) :
  SeqStopsK F n Zb 233 #[.pointer (some ⟨Bs,0,none⟩)] (fun x:Fin m=> #[nth ss x.1]) (Zs n₀) (fun ys=>ys=OG m m) (fun pre=> ∃k,k≤m∧pre=OG m k) m w:=fun l J Jx W hW _ _ hY h0=>
 gb F n hf O4 hn l Bs n₀ B m (nth ss) hp.top hB J Jx hY W ((hW.cell (p:=⟨Bs,0,none⟩) hBs).trans hc) (fun j hj=>by
  obtain ⟨s,hs⟩:=hp.get hj;rw [qm hs];exact (hW.cell (p:=⟨B,j,none⟩) hp.bks.lt).trans (hp.cells hs).2) h0
end
section
open Go Go.RowKit Go.Deep Go.Shelf
attribute [local go_sem] Oper.semAt_some
def Lr {m:Nat}(c:Nat→Nat)(l:List (Fin m)) :Nat:=(l.map fun x=>c x.1).sum
theorem Ax {m:Nat}(c:Nat→Nat)(l:List (Fin m))(x:Fin m) :Lr c (l++[x])=Lr c l+c x.1:=by simp [Lr]
theorem xi {m:Nat}(c:Nat→Nat)(M:Nat)(h: ∀j,c j≤M)(l:List (Fin m)) :Lr c l≤l.length*M:=by
 induction l with
 | nil=>simp [Lr]
 | cons x l ih=>
  have:=h x.1;simp only [Lr,Y2,List.sum_cons,Yp,Nat.add_mul,Nat.one_mul] at ih ⊢;omega
theorem ri {m:Nat}(c d:Nat→Nat)(l:List (Fin m)) :Lr (fun j=>c j+d j) l=Lr c l+Lr d l:=by
 induction l with
 | nil=>rfl
 | cons x l ih=>simp only [Lr,Y2,List.sum_cons] at ih ⊢; omega
theorem mm {m:Nat}(l:List (Fin m)) :Lr (fun _=>0) l=0:=by
 induction l with
 | nil=>rfl
 | cons x l ih=>simpa [Lr] using ih
theorem cE {m:Nat}(q:Nat) : ∀k,k≤m→Lr (fun j=>if q=j then 1 else 0) (OG m k)=if q < k then 1 else 0
 | 0,_=>by simp [Lr,OG]
 | k+1,h=>by
  rw [OH Zm,Ax,cE q k Zm]
  by_cases h1:q < k
  ·have: ¬q=k:=by omega
   simp [h1,this]; omega
  ·by_cases h2:q=k <;> simp [h1,h2]<;> omega
theorem rk (n:Nat)(hn:1≤n) : ∀L:List QT,Lr (fun j=>(bk n L j).length) (OG n n)=L.length
 | []=>mm _
 | e::L=>by
  obtain ⟨q,hq⟩ : ∃q:Nat,e.1%(n:Int)=(q:Int):=⟨(e.1%(n:Int)).toNat,by have:=Int.emod_nonneg e.1 (b:=(n:Int)) Zm; omega⟩;have hqn:q < n:=by have:=Int.emod_lt_of_pos e.1 (b:=(n:Int)) Zm; omega
  have hf:(fun j=>(bk n (e::L) j).length)=fun j=>(if q=j then 1 else 0)+(bk n L j).length:=by
   funext j
   unfold bk
   by_cases h:q=j
   ·subst h;rw [List.filter_cons_of_pos (by simp [hq])];simp; omega
   ·rw [List.filter_cons_of_neg (by simp [hq]; omega)];simp [h]
  rw [hf,ri,cE q n (Zg _),rk n hn L,if_pos hqn];simp; omega
theorem Zbv (F:Fence)(n:Nat)(TR:F.fn 63)(h25:F.fn 115)(h30:F.fn 157)(h33:F.fn 233)(O4:F.round=none)(hn:4≤n)(b B m:Nat)(ss:List Zl)(L:List QT)(w:Zc)(hp:Vi w b B m ss L)(hL:L.length≤100000) :
  CallsIn F n Zb 63 #[.pointer (some ⟨b,0,none⟩)] w fun e W'=>e= .returned (.int .i64 L.length)∧Zs w.heap.size w W':=by
 have h1:1≤n:=by omega
 refine callsIn_of_wp_marks Tryz.func63 rfl TR ?_ O4;have x0:=ZF (.cells #[.int .i64 0] 3) (hp.own.cell 0);simp only [Tryz.ntmps63,Jh,Yp,Jr,J7,Vn,QP,QQ,JK,Ja,QY,Yh]
 gi_wp2_with (gi_at_call 115; refine (uJ F (n - 1) h25 h30 O4 Zm b m m (some ⟨B,0,none⟩) _ x0).mono ?_; rintro e w' ⟨rfl,rfl⟩)
 have bS:=Boxed.new w 3 (.int .i64 0);have bN:=Boxed.new (w.alloc (.cells #[.int .i64 0] 3)) 222 (.slice (some ⟨B,0,none⟩) m m);rw [World.size_alloc] at bN;have hB0:Zs w.heap.size w ((w.alloc (.cells #[.int .i64 0] 3)).alloc (.cells #[.slice (some ⟨B,0,none⟩) m m] 222)):=((Zp _ w).alloc (Zg _) _).alloc ZI _;have kU:Vi ((w.alloc (.cells #[.int .i64 0] 3)).alloc (.cells #[.slice (some ⟨B,0,none⟩) m m] 222)) b B m ss L:=hp.same (hB0.block _ hp.own.lt) (hB0.block _ hp.bks.lt) (fun s hs i hi=>hB0.block _ (hp.lt hs hi));refine wpIn_rangeFunc_ownG O4 h1 (gf:=233) (lb:= #[.pointer (some ⟨w.heap.size+1,0,none⟩)]) rfl h33 (enters_of Tryz.func233 Ye rfl)
  (TY F (n - 1) h33 O4 Zm (w.heap.size+1) w.heap.size b B m ss L _ ZI zB13_2 bN.cell kU hp.bks.lt) belowK_t (belowK_b zB13_2) (Zp _ _) (fun _=>rfl)
  (fun pre W=>(W.cell? ⟨w.heap.size,0,none⟩=some (.int .i64 (Lr (fun j=>(bk m L j).length) pre))∧W.frozen? ⟨w.heap.size,0,none⟩=false)∧Zs w.heap.size w W)
  (fun _ _ _=>False)
  (OwnFrom.and (Own.from (fun s A B row hs hg hr=>⟨cell_kept hs.1 hg hr,(frozen_kept hs.1 hg hr).trans hs.2⟩) _) (ownFrom_below (Zg _) zB13_2))
  (fun _ _ _ _ _ hs _ _=>hs)
  ⟨⟨(bS.alloc _).cell,(bS.alloc _).frozen⟩,hB0⟩
  (fun x=> { tmps:= #[.pointer (some ⟨b,0,none⟩),Vm,.int .i64 0,.pointer (some ⟨w.heap.size,0,none⟩),nth ss x.1,.pointer (some ⟨b,0,none⟩),.func (.func 233) #[] #[.pointer (some ⟨w.heap.size+1,0,none⟩)],nth ss x.1,Vm,Vm,Vm,Vm,Vm],defers:= []}) ?assign ?body ?done ?stop
 case assign=>
  intro l x W K hK
  gi_wp2
  exact hK
 case body=>
  rintro l pre x W ⟨⟨hc,hf⟩,hB⟩ hpl;obtain ⟨s,hs⟩:=hp.get x.2;have hq:=Ca m L x.1;obtain ⟨a,cp,rfl,ph,pj⟩:=Eu (hp.row x.1 s hs);have hnt:=qm hs;have ME:=xi (fun j=>(bk m L j).length) 100000 (fun j=>Nat.le_trans (Ca m L j) hL) pre;have htop:=hp.top;have DY:=Ax (fun j=>(bk m L j).length) pre x;obtain ⟨q,hqe⟩ : ∃q,(bk m L x.1).length=q:=⟨_,rfl⟩;obtain ⟨t,hte⟩ : ∃t,Lr (fun j=>(bk m L j).length) pre=t:=⟨_,rfl⟩;try dsimp only at DY
  rw [hqe,hte] at DY;rw [hqe] at hnt hq ph;rw [hte] at hc ME;have hpl2:pre.length*100000≤4096*100000:=Nat.mul_le_mul_right _ Zm;have jI:=Lib.hid DY;clear DY hs hqe hte;unfold maxLen at pj;try dsimp only
  rw [hnt]
  gi_wp2
  exact ⟨(KeepsOthers.setCell _ _ _).from _,(Zp w.heap.size W).setCell (p:=⟨w.heap.size,0,none⟩) (Zg _) _,⟨by rw [jI.out]; exact World.cell?_setCell_same' _ _ _ (by rw [hc]; rfl),by rw [World.frozen?_setCell]; exact hf⟩,hB.setCell (p:=⟨w.heap.size,0,none⟩) (Zg _) _⟩
 case done=>
  rintro D ys W hD rfl ⟨⟨hc,_⟩,hB⟩ hK;rw [rk m hp.pos] at hc
  gi_wp2
  refine ⟨by simp,.inl ⟨_,_,rfl,run_takeDeferred hK,?_⟩⟩;exact ⟨_,results_tmp rfl _ _ _,rfl,hB.trans (belowK_b (w:=w) (Zg _) W D _ _ (by simp at hD; omega) hK rfl rfl)⟩
 case stop=>
  rintro D c pre W _ _ h _;exact h.elim
theorem eJ (b n:Nat)(S:Nat→Prop)(L:List QT)(w:Zc)(h:GX w b S n L)(hL:L.length≤100000) :
  Calls Zb 63 #[.pointer (some ⟨b,0,none⟩)] w fun e w'=>e= .returned (.int .i64 L.length)∧Zs w.heap.size w w':=by
 obtain ⟨B,ss,hp,-⟩:=h;exact callsIn_wide.1 (Zbv Fence.wide 4 trivial trivial trivial trivial rfl (Zg _) b B n ss L w hp hL)
end
end Go.Proofs.YtianiiijaopdpaaGreat
