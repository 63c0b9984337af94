/- Part 10 of 34: Joint. -/
import Derived.Test.YtobgbcdgffgdhaaGreatZx00
import Derived.Test.YtobgbcdgffgdhaaGreatZx04
import Derived.RangeFuncWrites
namespace Go.Proofs.YtobgbcdgffgdhaaGreat
set_option linter.unusedVariables false
set_option linter.unusedSimpArgs false
set_option maxRecDepth 100000
set_option maxHeartbeats 8000000
open _root_.Array renaming getElem?_eq_some_iff -> Yj
open _root_.Nat renaming le_refl -> Zh
open _root_.Go renaming World -> Zc
open _root_.Go.World renaming putObj_heap_other -> Br
section
open Go Go.RowKit
variable {F:Fence} {n:Nat} {P:Program}
theorem Ex {S:Nat->Prop}{B:Nat}{w w':Zc}(h:ZA S w w')(hS: ∀i,B<=i-> ¬S i) :KeepsFrom B w w':=
 ⟨h.size,fun k o hB hk _=>(h.block k (Yj.1 hk).1 (hS k hB)).trans hk⟩
theorem M9 {α:Type}{g:Operand}{ps:Array Tmp}{assign body:Code}{Q:Exit->Act->Zc->Prop}{a:Act}{w:Zc}
  (Rf:F.round=none) (h1:1<=n) {gf:Nat} {lb:Array Value} (hg:a.eval g= .func (.func gf) #[] lb) (hFg:F.fn gf) (eg: ∀args w,(callFunc gf args).run P w= .ok (.enter gf args) w)
  {encs:α->Array Value} (hps: ∀x,(encs x).size=ps.size)
  (T U:α->Zc->Prop) (Z:Zc->Prop) (hT:OwnFrom w.heap.size T) (hU:OwnFrom w.heap.size U) (hZ:OwnFrom w.heap.size (fun (_:Unit) W=>Z W)) (a₁:α->Act)
  (TQ: ∀(l:Nat) (x:α) (W:Zc) (K:Act->Zc->Prop),K (a₁ x) W->
   assign.wpIn (F.inRound l) (n - 1 - 1) P (Exit.then K (fun _ _ _=>False)) { tmps:=(ps.zip (encs x)).foldl (fun t (p,v)=>t.setIfInBounds p v) a.tmps,defers:= []} W)
  (hbody: ∀(l:Nat) (x:α) (W:Zc),T x W->body.wpIn (F.inRound l) (n - 1 - 1) P (fun e _ W'=>e= .normal/\KeepsFrom w.heap.size W W'/\U x W') (a₁ x) W)
  (hit: ∀(l:Nat) (Bk:Zc->Prop),(∀A B,KeepsFrom w.heap.size A B->Bk A->Bk B)->
   (∀x W,Bk W->T x W->YieldAt F (n - 1 - 1) P l (encs x) W fun e W'=>e= .returned (.bool true)/\Bk W'/\U x W')->
   ∀W1,Bk W1->Below w.heap.size w W1->CallsIn F (n - 1) P gf (#[.func (.yield l) #[] #[]]++lb) W1 fun e W'=>(∃v,e= .returned v)/\Bk W'/\Z W')
  (FW: ∀(D:Nat) (W:Zc),w.heap.size<=D->Z W->W.heap[D]?=some (.deferred (some []))->Q .normal { a with defers:= { target:= .collected D,args:= #[]}::a.defers} W) :
  (Code.rangeFunc g ps assign body).wpIn F n P Q a w:=by
 refine wpIn_rangeFunc ?_;intro fn Ab;rw [Rf];obtain ⟨rec,hrec⟩ : ∃rec:LoopState->Option Code->Loop,rec=fun st pe=> { state:=st,pending:=pe,fn,tmps:=a.tmps,params:=ps,assign,body,defers:=w.heap.size}:=⟨_,rfl⟩
 obtain ⟨W1,hW1⟩:=ZR ((w.alloc (.deferred (some []))).alloc (.loop (rec .ready none)));have hL1:W1.heap[w.heap.size+1]?=some (.loop (rec .ready none)):=by
  rw [<-hW1]; have:=World.alloc_heap_new (w.alloc (.deferred (some []))) (.loop (rec .ready none)); rwa [World.size_alloc] at this
 have fQ:W1.heap[w.heap.size]?=some (.deferred (some [])):=by
  rw [<-hW1]; exact (Below.heap_alloc _ _ _ ZE).trans (World.alloc_heap_new w _)
 have Hj:Below w.heap.size w W1:=by
  rw [<-hW1]; exact ((Below.refl _ w).alloc (Zh _) _).alloc ZE _
 refine ⟨w.heap.size+1,[{ target:= .collected w.heap.size,args:= #[]}],W1,{ target:= .fn (.func gf) lb,args:= #[.func (.yield (w.heap.size+1)) #[] #[]]},W1,gf,
  #[.func (.yield (w.heap.size+1)) #[] #[]]++lb,W1,?_,?_,?_,?_,fun _=>h1,?_⟩
 ·rw [<-hW1,hrec]; exact run_enterLoop_outer _ _ _ _ _
 ·simp only [resolve,hg];simp [go_sem]
 ·intro f' hf'; simp [Target.leads] at hf'; subst hf'; exact hFg
 ·simp [invoke,go_sem,eg]
 ·refine (hit (w.heap.size+1) (fun W=>W.heap[w.heap.size+1]?=some (.loop (rec .ready none))/\W.heap[w.heap.size]?=some (.deferred (some [])))
   (fun A B hk hs=>⟨hk.same _ _ Zf hs.1 rfl,hk.same _ _ (Zh _) hs.2 rfl⟩) ?_ W1 ⟨hL1,fQ⟩ Hj).mono ?_
  ·
   rintro x W ⟨hl,hk⟩ ht;have XJ:w.heap.size+1 < W.heap.size:=(Yj.1 hl).1;have hy:=run_yield (P:=P) (args:=encs x) hl (by rw [hrec]; exact hps x);rw [hrec] at hy;refine ⟨fn,_,assign,body,hy,roundIn_of_wpIn Ab (TQ _ x W _ ⟨_,run_beginRound hl (by rw [hrec]),?_⟩)⟩;have vH:(W.putObj (w.heap.size+1) (.loop { rec .ready none with state:= .busy})).heap[w.heap.size+1]?=some (.loop { rec .ready none with state:= .busy}):=World.putObj_heap_same XJ;have q9:(W.putObj (w.heap.size+1) (.loop { rec .ready none with state:= .busy})).heap[w.heap.size]?=some (.deferred (some [])):=(Br Zf).trans hk;refine wpIn_mono (hbody _ x _ (hT.putObj _ ht Zf hl rfl)) ?_;rintro e a3 W3 ⟨rfl,tv,hu⟩;have hl3:=tv.same _ _ Zf vH rfl;have Ub:=run_endRound (P:=P) none hl3;rw [hrec] at Ub;have hl4:(W3.putObj (w.heap.size+1) (.loop (rec .ready none))).heap[w.heap.size+1]?=some (.loop (rec .ready none)):=World.putObj_heap_same (Yj.1 hl3).1;have hk4:(W3.putObj (w.heap.size+1) (.loop (rec .ready none))).heap[w.heap.size]?=some (.deferred (some [])):=(Br Zf).trans (tv.same _ _ (Zh _) q9 rfl);have hu4:U x (W3.putObj (w.heap.size+1) (.loop (rec .ready none))):=hU.putObj _ hu Zf hl3 rfl;rw [hrec] at hl4 hk4 hu4;exact ⟨_,_,Ub,rfl,⟨by rw [hrec]; exact hl4,by exact hk4⟩,hu4⟩
  ·
   rintro e W2 ⟨⟨v,rfl⟩,⟨hl,hk⟩,hz⟩;exact ⟨none,_,by have:=run_endLoop (P:=P) hl (by rw [hrec]; simp); rw [hrec] at this; exact this,FW _ _ (Zh _) (hZ.putObj (s:=()) _ hz Zf hl rfl) ((Br Zf).trans hk)⟩
end
end Go.Proofs.YtobgbcdgffgdhaaGreat
