/- Part 40 of 58: L08Iter L08Len. -/
import Derived.Test.YtianiiijaopdpaaGreatZu00
import Derived.Test.YtianiiijaopdpaaGreatZu25
import Derived.LoopIn
import Derived.LoopNIn
import Derived.OwnWalkIn
import Derived.RangeFuncBox
import Derived.Shelf.Abstract
import Derived.TacticsInMore
namespace Go.Proofs.YtianiiijaopdpaaGreat
set_option linter.unusedVariables false
set_option linter.unusedSimpArgs false
set_option maxRecDepth 100000
set_option maxHeartbeats 8000000
open _root_.Array renaming replicate_succ → QP, replicate_zero → QQ
open _root_.Go.RowKit renaming Below → Zt
open _root_.Go.RowKit.Below renaming refl → Zr
open _root_.List renaming append_toArray → Jc, cons_append → Ym, length_cons → Yu, length_nil → Jn, map_cons → YW, nil_append → Q5, push_toArray → JC, size_toArray → Jg
open _root_.Nat renaming le_refl → Zg, reduceAdd → JZ, reduceSub → K9
open _root_.Go.Proofs.Tryz renaming prog → Zb
open _root_.Go renaming Value → Zo, World → Zc, undef → K8
section
open Go Go.RowKit Go.Deep Go.Shelf
attribute [local go_sem] Oper.semAt_some
def OU (m k:Nat) :List (Fin m):=(List.finRange m).take k
theorem OV {m k:Nat}(h:k < m) :OU m (k+1)=OU m k++[⟨k,h⟩]:=by
 unfold OU;rw [List.take_add_one];simp [h]
theorem sx {m k:Nat}(h:k≤m) :(OU m k).length=k:=by simp [OU]; omega
theorem gW (F:Fence)(n:Nat)(hf:F.fn 233)(Pf:F.round=none)(hn:1≤n)(l Bs n₀ B m:Nat)(f:Nat→Zo)(hm:m≤4096)(hb:B < n₀)(J Jx:List (Fin m)→Zc→Prop)
  (hY: ∀pre (x:Fin m) W,J pre W→pre.length < m→YieldAt F (n - 1) Zb l #[f x.1] W fun e W'=>
   (e= .returned (.bool true)∧J (pre++[x]) W'∧Zt n₀ W W')∨(e= .returned (.bool false)∧Jx (pre++[x]) W'))
  (W:Zc) (hBs:W.cell? ⟨Bs,0,none⟩=some (.slice (some ⟨B,0,none⟩) m m)) (hc: ∀j,j < m→W.cell? ⟨B,j,none⟩=some (f j)) (h0:J [] W) :
  CallsIn F n Zb 233 #[.func (.yield l) #[] #[],.pointer (some ⟨Bs,0,none⟩)] W fun e W'=>(∃v,e= .returned v)∧
   ((∃ys,ys=OU m m∧J ys W')∨(∃pre,(∃k,k≤m∧pre=OU m k)∧Jx pre W')):=by
 refine callsIn_of_wp Tryz.func233 rfl hf ?_ Pf;simp only [Tryz.ntmps233,Jg,Yu,Jn,JZ,K9,QP,QQ,JC,Jc,Q5,Ym]
 gi_wp2
 gi_loopw [7] (fun i wr=> ∃k:Nat,k≤m∧i= .int .i64 k∧J (OU m k) wr∧Zt n₀ W wr)
  (fun i _=>m -(intOf i).toNat)
 case atStart=>exact ⟨0,Nat.zero_le _,rfl,h0,Zr _ _⟩
 case round=>
  obtain ⟨k,hk,rfl,hJs,Al⟩:=hrel;have hcx:k < m→wr.cell? ⟨B,k,none⟩=some (f k):=fun h=>(Al.cell (p:=⟨B,k,none⟩) hb).trans (hc k h)
  by_cases XJ:k < m
  ·obtain ⟨fn,tmps,assign,body,hy,hR⟩:=hY _ ⟨k,XJ⟩ wr hJs (by rw [sx hk]; exact XJ)
   dsimp only at hy
   have hcx':=hcx XJ;clear hcx hc
   gi_wp2
   refine hR.mono ?_;rintro e W3 (⟨rfl,hJ3,nN⟩ | ⟨rfl,hJx3⟩)
   ·gi_wp2
    go_roundw
    case rel=>exact ⟨k+1,by omega,by simp,by rw [OV XJ]; exact hJ3,Al.trans nN⟩
    case measure=>exact Uz
   ·gi_wp2
    refine bodyPost_ret (results_none rfl _ _ _) rfl ?_;exact ⟨⟨_,rfl⟩,.inr ⟨_,⟨k+1,by omega,(OV XJ).symm⟩,hJx3⟩⟩
  ·obtain rfl:k=m:=by omega
   clear hcx hc
   gi_wp2
   go_end0;exact ⟨⟨_,rfl⟩,.inl ⟨_,rfl,hJs⟩⟩
theorem nA (F:Fence)(n:Nat)(hf:F.fn 157)(Pf:F.round=none)(a:Option Addr)(len cap:Nat)(w:Zc) :
  CallsIn F n Zb 157 #[.slice a len cap] w fun e w'=>e= .returned (.func (.func 233) #[] #[.pointer (some ⟨w.heap.size,0,none⟩)])∧w'=w.alloc (.cells #[.slice a len cap] 222):=by
 refine callsIn_of_wp Tryz.func157 rfl hf ?_ Pf;simp only [Tryz.ntmps157,Jg,Yu,Jn,JZ,K9,QP,QQ,JC,Jc,Q5,Ym]
 gi_wp2
 go_ret;exact BV
theorem vx (F:Fence)(n:Nat)(h1:F.fn 115)(hf:F.fn 157)(Pf:F.round=none)(hn:1≤n)(b len cap:Nat)(a:Option Addr)(w:Zc)(hc:w.cell? ⟨b,0,none⟩=some (.slice a len cap)) :
  CallsIn F n Zb 115 #[.pointer (some ⟨b,0,none⟩)] w fun e w'=>e= .returned (.func (.func 233) #[] #[.pointer (some ⟨w.heap.size,0,none⟩)])∧w'=w.alloc (.cells #[.slice a len cap] 222):=by
 refine callsIn_of_wp Tryz.func115 rfl h1 ?_ Pf;simp only [Tryz.ntmps115,Jg,Yu,Jn,JZ,K9,QP,QQ,JC,Jc,Q5,Ym]
 gi_wp2_with (gi_at_call 157; refine (nA F (n - 1) hf Pf _ _ _ _).mono ?_; rintro e w' ⟨rfl,rfl⟩)
 go_ret;exact BV
def nth (ss:List Zo)(j:Nat) :Zo:=ss.getD j (.slice none 0 0)
theorem ri {ss:List Zo}{j:Nat}{s:Zo}(h:ss[j]?=some s) :nth ss j=s:=by simp [nth,List.getD_eq_getElem?_getD,h]
theorem Wq (F:Fence)(n:Nat)(hf:F.fn 233)(Pf:F.round=none)(hn:1≤n)(Bs n₀ b B m:Nat)(ss:List Zo)(L:List QO)(w:Zc)(hBs:Bs < w.heap.size)(hn₀:n₀≤w.heap.size)
  (hc:w.cell? ⟨Bs,0,none⟩=some (.slice (some ⟨B,0,none⟩) m m)) (hp:KV w b B m ss L) (hB:B < n₀) :
  SeqStopsK F n Zb 233 #[.pointer (some ⟨Bs,0,none⟩)] (fun x:Fin m=> #[nth ss x.1]) (Zt n₀) (fun ys=>ys=OU m m) (fun pre=> ∃k,k≤m∧pre=OU m k) m w:=fun l J Jx W hW _ _ hY h0=>
 gW F n hf Pf hn l Bs n₀ B m (nth ss) hp.top hB J Jx hY W ((hW.cell (p:=⟨Bs,0,none⟩) hBs).trans hc) (fun j hj=>by
  obtain ⟨s,hs⟩:=hp.get hj;rw [ri hs];exact (hW.cell (p:=⟨B,j,none⟩) hp.bks.lt).trans (hp.cells hs).2) h0
end
section
open Go Go.RowKit Go.Deep Go.Shelf
attribute [local go_sem] Oper.semAt_some
def Lp {m:Nat}(c:Nat→Nat)(l:List (Fin m)) :Nat:=(l.map fun x=>c x.1).sum
theorem AO {m:Nat}(c:Nat→Nat)(l:List (Fin m))(x:Fin m) :Lp c (l++[x])=Lp c l+c x.1:=by simp [Lp]
theorem yf {m:Nat}(c:Nat→Nat)(M:Nat)(h: ∀j,c j≤M)(l:List (Fin m)) :Lp c l≤l.length*M:=by
 induction l with
 | nil=>simp [Lp]
 | cons x l ih=>
  have:=h x.1;simp only [Lp,YW,List.sum_cons,Yu,Nat.add_mul,Nat.one_mul] at ih ⊢;omega
theorem sh {m:Nat}(c d:Nat→Nat)(l:List (Fin m)) :Lp (fun j=>c j+d j) l=Lp c l+Lp d l:=by
 induction l with
 | nil=>rfl
 | cons x l ih=>simp only [Lp,YW,List.sum_cons] at ih ⊢; omega
theorem ni {m:Nat}(l:List (Fin m)) :Lp (fun _=>0) l=0:=by
 induction l with
 | nil=>rfl
 | cons x l ih=>simpa [Lp] using ih
theorem dh {m:Nat}(q:Nat) : ∀k,k≤m→Lp (fun j=>if q=j then 1 else 0) (OU m k)=if q < k then 1 else 0
 | 0,_=>by simp [Lp,OU]
 | k+1,h=>by
  rw [OV Zp,AO,dh q k Zp]
  by_cases h1:q < k
  ·have: ¬q=k:=by omega
   simp [h1,this]; omega
  ·by_cases h2:q=k <;> simp [h1,h2]<;> omega
theorem sj (n:Nat)(hn:1≤n) : ∀L:List QO,Lp (fun j=>(bk n L j).length) (OU n n)=L.length
 | []=>ni _
 | e::L=>by
  obtain ⟨q,hq⟩ : ∃q:Nat,e.1%(n:Int)=(q:Int):=⟨(e.1%(n:Int)).toNat,by have:=Int.emod_nonneg e.1 (b:=(n:Int)) Zp; omega⟩;have hqn:q < n:=by have:=Int.emod_lt_of_pos e.1 (b:=(n:Int)) Zp; omega
  have hf:(fun j=>(bk n (e::L) j).length)=fun j=>(if q=j then 1 else 0)+(bk n L j).length:=by
   funext j
   unfold bk
   by_cases h:q=j
   ·subst h;rw [List.filter_cons_of_pos (by simp [hq])];simp; omega
   ·rw [List.filter_cons_of_neg (by simp [hq]; omega)];simp [h]
  rw [hf,sh,dh q n (Zg _),sj n hn L,if_pos hqn];simp; omega
theorem Zcn (F:Fence)(n:Nat)(We:F.fn 63)(h25:F.fn 115)(h30:F.fn 157)(h33:F.fn 233)(Pf:F.round=none)(hn:4≤n)(b B m:Nat)(ss:List Zo)(L:List QO)(w:Zc)(hp:KV w b B m ss L)(hL:L.length≤100000) :
  CallsIn F n Zb 63 #[.pointer (some ⟨b,0,none⟩)] w fun e W'=>e= .returned (.int .i64 L.length)∧Zt w.heap.size w W':=by
 have h1:1≤n:=by omega
 refine callsIn_of_wp_marks Tryz.func63 rfl We ?_ Pf;have x0:=ZK (.cells #[.int .i64 0] 3) (hp.own.cell 0);simp only [Tryz.ntmps63,Jg,Yu,Jn,JZ,K9,QP,QQ,JC,Jc,Q5,Ym]
 gi_wp2_with (gi_at_call 115; refine (vx F (n - 1) h25 h30 Pf Zp b m m (some ⟨B,0,none⟩) _ x0).mono ?_; rintro e w' ⟨rfl,rfl⟩)
 have bS:=Boxed.new w 3 (.int .i64 0);have bN:=Boxed.new (w.alloc (.cells #[.int .i64 0] 3)) 222 (.slice (some ⟨B,0,none⟩) m m);rw [World.size_alloc] at bN;have hB0:Zt w.heap.size w ((w.alloc (.cells #[.int .i64 0] 3)).alloc (.cells #[.slice (some ⟨B,0,none⟩) m m] 222)):=((Zr _ w).alloc (Zg _) _).alloc ZO _;have lV:KV ((w.alloc (.cells #[.int .i64 0] 3)).alloc (.cells #[.slice (some ⟨B,0,none⟩) m m] 222)) b B m ss L:=hp.same (hB0.block _ hp.own.lt) (hB0.block _ hp.bks.lt) (fun s hs i hi=>hB0.block _ (hp.lt hs hi));refine wpIn_rangeFunc_ownG Pf h1 (gf:=233) (lb:= #[.pointer (some ⟨w.heap.size+1,0,none⟩)]) rfl h33 (enters_of Tryz.func233 Yi rfl)
  (Wq F (n - 1) h33 Pf Zp (w.heap.size+1) w.heap.size b B m ss L _ ZO Vq bN.cell lV hp.bks.lt) belowK_t (belowK_b Vq) (Zr _ _) (fun _=>rfl)
  (fun pre W=>(W.cell? ⟨w.heap.size,0,none⟩=some (.int .i64 (Lp (fun j=>(bk m L j).length) pre))∧W.frozen? ⟨w.heap.size,0,none⟩=false)∧Zt w.heap.size w W)
  (fun _ _ _=>False)
  (OwnFrom.and (Own.from (fun s A B row hs hg hr=>⟨cell_kept hs.1 hg hr,(frozen_kept hs.1 hg hr).trans hs.2⟩) _) (ownFrom_below (Zg _) Vq))
  (fun _ _ _ _ _ hs _ _=>hs)
  ⟨⟨(bS.alloc _).cell,(bS.alloc _).frozen⟩,hB0⟩
  (fun x=> { tmps:= #[.pointer (some ⟨b,0,none⟩),K8,.int .i64 0,.pointer (some ⟨w.heap.size,0,none⟩),nth ss x.1,.pointer (some ⟨b,0,none⟩),.func (.func 233) #[] #[.pointer (some ⟨w.heap.size+1,0,none⟩)],nth ss x.1,K8,K8,K8,K8,K8],defers:= []}) ?assign ?body ?done ?stop
 case assign=>
  intro l x W K hK
  gi_wp2
  exact hK
 case body=>
  rintro l pre x W ⟨⟨hc,hf⟩,hB⟩ zO;obtain ⟨s,hs⟩:=hp.get x.2;have hq:=Cs m L x.1;obtain ⟨a,cp,rfl,qa,qc⟩:=Ep (hp.row x.1 s hs);have hnt:=ri hs;have EU:=yf (fun j=>(bk m L j).length) 100000 (fun j=>Nat.le_trans (Cs m L j) hL) pre;have htop:=hp.top;have DY:=AO (fun j=>(bk m L j).length) pre x;obtain ⟨q,hqe⟩ : ∃q,(bk m L x.1).length=q:=⟨_,rfl⟩;obtain ⟨t,hte⟩ : ∃t,Lp (fun j=>(bk m L j).length) pre=t:=⟨_,rfl⟩;try dsimp only at DY
  rw [hqe,hte] at DY;rw [hqe] at hnt hq qa;rw [hte] at hc EU;have hpl2:pre.length*100000≤4096*100000:=Nat.mul_le_mul_right _ Zp;have kz:=Lib.hid DY;clear DY hs hqe hte;unfold maxLen at qc;try dsimp only
  rw [hnt]
  gi_wp2
  exact ⟨(KeepsOthers.setCell _ _ _).from _,(Zr w.heap.size W).setCell (p:=⟨w.heap.size,0,none⟩) (Zg _) _,⟨by rw [kz.out]; exact World.cell?_setCell_same' _ _ _ (by rw [hc]; rfl),by rw [World.frozen?_setCell]; exact hf⟩,hB.setCell (p:=⟨w.heap.size,0,none⟩) (Zg _) _⟩
 case done=>
  rintro D ys W hD rfl ⟨⟨hc,_⟩,hB⟩ hK;rw [sj m hp.pos] at hc
  gi_wp2
  refine ⟨by simp,.inl ⟨_,_,rfl,run_takeDeferred hK,?_⟩⟩;exact ⟨_,results_tmp rfl _ _ _,rfl,hB.trans (belowK_b (w:=w) (Zg _) W D _ _ (by simp at hD; omega) hK rfl rfl)⟩
 case stop=>
  rintro D c pre W _ _ h _;exact h.elim
theorem fy (b n:Nat)(S:Nat→Prop)(L:List QO)(w:Zc)(h:GW w b S n L)(hL:L.length≤100000) :
  Calls Zb 63 #[.pointer (some ⟨b,0,none⟩)] w fun e w'=>e= .returned (.int .i64 L.length)∧Zt w.heap.size w w':=by
 obtain ⟨B,ss,hp,-⟩:=h;exact callsIn_wide.1 (Zcn Fence.wide 4 trivial trivial trivial trivial rfl (Zg _) b B n ss L w hp hL)
end
end Go.Proofs.YtianiiijaopdpaaGreat
