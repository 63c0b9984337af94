/- Part 20 of 31: L14Step. -/
import Derived.Test.YtobgbcdgffgdhaaGreatZw00
import Derived.Test.YtobgbcdgffgdhaaGreatZw16
import Derived.Laws.EntriesVeiled
namespace Go.Proofs.YtobgbcdgffgdhaaGreat
set_option linter.unusedVariables false
set_option linter.unusedSimpArgs false
set_option maxRecDepth 100000
set_option maxHeartbeats 8000000
open _root_.And renaming intro -> Zn
open _root_.Array renaming replicate_succ -> XN, replicate_zero -> XO
open _root_.Go.Proofs.YtobgbcdgffgdhaaGreat.Zu renaming new -> Zt
open _root_.Go.Instr renaming makeFunc -> QH
open _root_.Go.Proofs.YtobgbcdgffgdhaaGreat.Zx renaming of_below -> YR
open _root_.List renaming append_toArray -> XY, cons_append -> Yf, length_cons -> Yc, length_nil -> Qn, nil_append -> XZ, push_toArray -> QB, size_toArray -> Qc
open _root_.Nat renaming add_assoc -> Q7, le_refl -> Zh, reduceAdd -> Q8, reduceSub -> JO
open _root_.Go.Proofs.Tryz renaming prog -> Zb
open _root_.Go renaming Value -> Zk, World -> Zc, undef -> Kr
open _root_.Go.Value renaming int -> ZI
open _root_.Go.World renaming size_alloc -> QV
open Go.Proofs.Tryz
section
open Go Go.RowKit Go.Shelf
attribute [local go_sem] Oper.semAt_some
def PB (w:Zc)(b:Nat)(go:Option Nat)(sz:Nat)(L:List Int)(B:Nat)(e:Ending)(w':Zc) :Prop:=
 ∃v,e= .returned v/\w'.ownsRow w.heap.size 3 1 v B ((L.take B).map (ZI .i64))/\Yv 148 3 1 w' b go sz (L.length - B) ((L.drop B).map (ZI .i64))/\Zx (QU b go) w w'
theorem Fx {w:Zc}{base e k n:Nat}{v:Zk}{xs:List Zk}(h:w.ownsRow base e k v n xs){B:Nat}(hB:B<=base) :w.ownsRow B e k v n xs:=tM
theorem lF (b:Nat)(fn:Fn)(cs:Array Zk)(w:Zc)(F:Fence)(n:Nat)(hf:F.fn 240)(Ov:F.round=none) :
  CallsIn F n Zb 240 #[.pointer (some ⟨b,0,none⟩),.func fn #[] cs] w fun e w'=>e= .returned (.func (.func 269) #[] #[.pointer (some ⟨w.heap.size,0,none⟩),.pointer (some ⟨w.heap.size+1,0,none⟩)])/\
   w'=(w.alloc (.cells #[.pointer (some ⟨b,0,none⟩)] 95)).alloc (.cells #[.func fn #[] cs] 65):=by
 have CQ: ∀(fn:Fn) (first cap:Array Zk) (w:Zc),(QH fn first cap).run Zb w= .ok (.func fn first cap) w:=fun _ _ _ _=>rfl
 refine callsIn_of_wp func240 rfl hf ?_ Ov;simp only [ntmps240,Qc,Yc,Qn,Q8,JO,XN,XO,QB,XY,XZ,Yf]
 gi_wp2
 go_ret;exact DF
section
variable {w W w1:Zc} {b:Nat} {go:Option Nat} {sz:Nat} {L:List Int} {wv:Zk} {lim:Int} {p:Nat × Int} {k x:Nat}
def W0 (w1:Zc)(b z:Nat) :Zc:=
 (((w1.alloc (.cells #[Np (z+1)] 282)).alloc (.cells #[.slice none 0 0] 24)).alloc (.cells #[.pointer (some ⟨b,0,none⟩)] 95)).alloc (.cells #[mX z] 65)
theorem iK (hr:Yv 148 3 1 w b go sz L.length (L.map (ZI .i64)))(hb:RF w1 (w.heap.size+1) lim (0,0))(bl:Below (w.heap.size+1) (w.alloc (.cells #[wv] 121)) w1)(hz:w1.heap.size=w.heap.size+1+3) :
  Sq w b go sz L wv lim (0,0) 0 0 (W0 w1 b w.heap.size)/\(W0 w1 b w.heap.size).heap.size=w.heap.size+8:=by
 have e1:Below w.heap.size w w1:=((Below.refl _ w).alloc (Zh _) _).trans (bl.mono Zf);have n1:=Zt w1 282 #[Np (w.heap.size+1)];have n2:=Zt (w1.alloc (.cells #[Np (w.heap.size+1)] 282)) 24 #[.slice none 0 0];have n3:=Zt ((w1.alloc (.cells #[Np (w.heap.size+1)] 282)).alloc (.cells #[.slice none 0 0] 24)) 95 #[.pointer (some ⟨b,0,none⟩)];have n4:=Zt (((w1.alloc (.cells #[Np (w.heap.size+1)] 282)).alloc (.cells #[.slice none 0 0] 24)).alloc (.cells #[.pointer (some ⟨b,0,none⟩)] 95)) 65 #[mX w.heap.size];simp only [QV,hz,Q7,Q8] at n1 n2 n3 n4;have kept:Zx (QU b go) w (W0 w1 b w.heap.size):=((((YR (S:=QU b go) e1).alloc _).alloc _).alloc _).alloc _;have wb:Zu w1 w.heap.size 121 #[wv]:=(Zt w 121 #[wv]).below bl Zf;refine ⟨⟨?_,⟨(((hb.1.alloc _).alloc _).alloc _).alloc _,(((hb.2.1.alloc _).alloc _).alloc _).alloc _,(((hb.2.2.alloc _).alloc _).alloc _).alloc _⟩,(((wb.alloc _).alloc _).alloc _).alloc _,((n1.alloc _).alloc _).alloc _,n3.alloc _,n4,⟨.slice none 0 0,(n2.alloc _).alloc _,World.ownsRow_nil _ _ _ _,trivial⟩,kept⟩,by simp [W0,hz]⟩;exact hr.kept (S:=fun _=>False) (((((YR (S:=fun _=>False) e1).alloc _).alloc _).alloc _).alloc _) (fun _ _ h=>h)
theorem Sq.collect {v v':Zk}{tmp:Obj}(h:Sq w b go sz L wv lim p (x+1) x W)(XV: ∀i,QU b go i->i < w.heap.size)(hv:Boxed W (w.heap.size+5) 24 v)(UN:W.ownsRow (w.heap.size+8) 3 1 v x ((L.take x).map (ZI .i64)))(hx:x < L.length)(Bx:w.heap.size+8<=W.heap.size)
  (MI:w1.ownsRow (w.heap.size+8) 3 1 v' (x+1) ((L.take x).map (ZI .i64)++[.int .i64 (L.getD x 0)])) (FQ:(W.alloc tmp).grownBy w1 v.ownBlock) :
  Boxed w1 (w.heap.size+5) 24 v/\Sq w b go sz L wv lim p (x+1) (x+1) (w1.setCell ⟨w.heap.size+5,0,none⟩ v')/\KeepsOthers W (w1.setCell ⟨w.heap.size+5,0,none⟩ v'):=by
 obtain ⟨a1,a2,a3,a4,-⟩:=Boxed.appended (n₀:=w.heap.size+5) (B:=w.heap.size+5) hv YW (Fx UN Zf) Zf (Zh _) (Fx MI Zf) FQ;have K:Zx (fun i=>i=w.heap.size+5\/v.ownBlock=some i) W (w1.setCell ⟨w.heap.size+5,0,none⟩ v'):=
  (((Zx.refl _ W).alloc tmp).trans (Zx.of_grown (S:=fun i=>v.ownBlock=some i) FQ (fun i e=>e.symm)) (fun _ _ e=> .inr e)).setCell (.inl (.inl rfl)) v'
 have nk: ∀i,i < w.heap.size+8->i≠w.heap.size+5-> ¬(i=w.heap.size+5\/v.ownBlock=some i):=fun i h1 h2 e=>e.elim h2 (fun e=>by have:=(UN.lt i e).1; omega)
 refine ⟨a1,⟨h.ring.kept K (fun i hi=>nk i (by have:=XV i hi; omega) (by have:=XV i hi; omega)),h.bnd.kept K (fun i h1 h2=>nk i Zf Zf),h.fw.kept K (nk _ Zf Zf),h.fb.kept K (nk _ Zf Zf),h.fq.kept K (nk _ Zf Zf),h.fn.kept K (nk _ Zf Zf),⟨v',a2,?_,trivial⟩,h.kept.trans K (fun i hi e=>(nk i Zf Zf e).elim)⟩,a4⟩;have Ka: ∀i,v'.ownBlock=some i->i≠w.heap.size+5:=fun i e=>by have:=(MI.lt i e).1; omega
 have ho:=Fy (W':=w1.setCell ⟨w.heap.size+5,0,none⟩ v') MI (fun i e=>Below.heap_setCell _ _ _ _ (Ka i e));rw [List.take_succ_eq_append_getElem hx,List.map_append];rw [List.getD_eq_getElem?_getD,List.getElem?_eq_getElem hx] at ho;exact ho
end
section
variable {w:Zc} {b:Nat} {go:Option Nat} {sz:Nat} {L Lw:List Int} {a:Option Addr} {cap:Nat} {lim:Int}
theorem yR (F:Fence)(n:Nat)(uX:F=Fence.wide)(hn:6<=n)(hr:Yv 148 3 1 w b go sz L.length (L.map (ZI .i64)))(hu:Ot w (QU b go) a Lw)(hL:Lw.length<=9223372036854775807)(hA:Mi Lw)(hl:BH lim) :
  CallsIn F n Zb 204 #[.pointer (some ⟨b,0,none⟩),.int .u64 lim,.slice a Lw.length cap] w (PB w b go sz L (FP lim (L.map (Ks Lw)))):=by
 have h1:1<=n:=Zf;have Ov:F.round=none:=by rw [uX]; rfl
 have hf: ∀k,F.fn k:=fun k=>by rw [uX]; trivial
 have HC:Zl (∀(f n:Nat) (args:Array Zk) (w:Zc) (R:Ending->Zc->Prop),Calls Zb f args w R->CallsIn F n Zb f args w R):=Za (fun f n args w R h=>by rw [uX]; exact callsIn_wide.2 h);have HFW:=Za uX;have HR:=Za hr;have CQ: ∀(fn:Fn) (first cap:Array Zk) (w:Zc),(QH fn first cap).run Zb w= .ok (.func fn first cap) w:=fun _ _ _ _=>rfl
 clear uX hr;refine callsIn_of_wp_marks func204 rfl (hf _) ?_ Ov;simp only [ntmps204,Qc,Yc,Qn,Q8,JO,XN,XO,QB,XY,XZ,Yf]
 gi_wp2_with (first | (gi_at_call 237; refine (HC.o _ _ _ _ _ (So lim _)).mono ?_; rintro e w1 ⟨rfl,EX,bl1,By⟩; rw [QV] at EX bl1 By; unfold Np; have HZ1:=Za (Zn EX (Zn bl1 By)); clear EX bl1 By) | (gi_at_call 240; refine (lF b _ _ _ F (n - 1) (hf _) Ov).mono ?_; rintro e w2 ⟨rfl,rfl⟩))
 obtain ⟨qN,BK⟩:=iK (L:=L) HR.o HZ1.o.1 HZ1.o.2.1 HZ1.o.2.2;have hzz:=HZ1.o.2.2;have XV:=HR.o.lt;have hLL:=HR.o.size_le;rw [hzz];simp only [Q7,Q8];show Code.wpIn _ _ _ _ _ _ (W0 w1 b w.heap.size);generalize W0 w1 b w.heap.size=W at*;clear HZ1 hzz CQ;obtain ⟨X,hX⟩:=ZT (L.map (Ks Lw));have hXl:X.length=L.length:=by rw [<-hX]; exact List.length_map ..
 have NC:FP lim X<=L.length:=by rw [<-hXl]; exact Ct X
 rw [hX];obtain ⟨i0,hi,hz0',By,Nb⟩:=Bg;have HI:=Za (fun l Bk wT=>lE (L:=L) (sz:=sz) (cap:=cap) F (n - 1) HFW.o Zf l Bk W.heap.size Zf wT XV hu hL hA hl Zf);rw [hX] at HI;refine LN Ov h1 (gf:=269) (lb:= #[.pointer (some ⟨w.heap.size+6,0,none⟩),.pointer (some ⟨w.heap.size+7,0,none⟩)]) rfl (hf _) (enters_of func269 ZC rfl)
  (encs:=fun x:Nat=> #[.int .i64 (L.getD x 0)]) (fun _=>rfl)
  (fun x W'=>x < FP lim X/\Sq w b go sz L (.slice a Lw.length cap) lim (du X (x+1)) (x+1) x W')
  (fun x W'=>x < FP lim X/\Sq w b go sz L (.slice a Lw.length cap) lim (du X (x+1)) (x+1) (x+1) W')
  (fun W'=> ∃q,Sq w b go sz L (.slice a Lw.length cap) lim q (FP lim X) (FP lim X) W')
  (fun s A B' row h hg hr=>⟨h.1,Sq.own Zf (fun x=>du X (x+1)) (fun x=>x+1) (fun x=>x) s A B' row h.2 hg hr⟩)
  (fun s A B' row h hg hr=>⟨h.1,Sq.own Zf (fun x=>du X (x+1)) (fun x=>x+1) (fun x=>x+1) s A B' row h.2 hg hr⟩)
  (fun s A B' row h hg hr=>h.imp fun q h=>Sq.own Zf (fun _=>q) (fun _=>FP lim X) (fun _=>FP lim X) 0 A B' row h hg hr)
  (fun x=> { tmps:= #[.pointer (some ⟨b,0,none⟩),.int .u64 lim,.slice a Lw.length cap,Kr,Kr,.pointer (some ⟨w.heap.size,0,none⟩),.slice none 0 0,.pointer (some ⟨w.heap.size+4,0,none⟩),mX w.heap.size,.pointer (some ⟨w.heap.size+5,0,none⟩),.int .i64 (L.getD x 0),.int .u64 lim,Np (w.heap.size+1),mX w.heap.size,.pointer (some ⟨b,0,none⟩),mX w.heap.size,.func (.func 269) #[] #[.pointer (some ⟨w.heap.size+6,0,none⟩),.pointer (some ⟨w.heap.size+7,0,none⟩)],.int .i64 (L.getD x 0),Kr,Kr,Kr,Kr,Kr],defers:= []}) ?assign ?body ?it ?done
 case assign=>
  intro l x W K hK
  gi_wp2
  exact hK
 case body=>
  rintro l x W1 ⟨hx,hs⟩;obtain ⟨v,hv,UN,-⟩:=hs.o;have hc:=hv.cell;have hxl:x < L.length:=Zf;have Bx:w.heap.size+8<=W1.heap.size:=hs.fn.lt;obtain ⟨y,hy⟩:=ZT (L.getD x 0);have HSQ:=Za (fun (v':Zk) (w1:Zc) (tmp:Obj)=>Sq.collect (w1:=w1) (v':=v') (tmp:=tmp) hs XV hv UN hxl Bx);rw [hy] at HSQ ⊢;have HROW:=Za UN;have HXX:=Za hx;clear hs UN hy hx HI qN XV
  gi_wp2_with (gi_at_builtin; refine wpListIn_append_own _ rfl _ _ 24 rfl (w.heap.size+8) 3 i0 (.int .i64 0) 1 8 underlying24 hi hz0' By Nb rfl YW _ _ _ rfl (HROW.o.alloc _) ⟨W1.heap.size,0,none⟩ 1 1 [.int .i64 y] rfl rfl (pN _ _ _) (by simp [Value.oneCell']) GU Zf Xl ?_; intro v' w1 hown' FQ _; obtain ⟨g',cap',rfl⟩:=ownsRow_succ hown'; obtain ⟨hv1,bR,WH⟩:=HSQ.o _ w1 _ hown' FQ; have M9:=hv1.cell; have hf1:=hv1.frozen; have HR1:=Za (Zn bR WH); clear hown' FQ bR WH)
  exact ⟨HR1.o.2.from _,HXX.o,HR1.o.1⟩
 case it=>
  intro l Bk wT hY W1 hb hbl2;exact HI.o l Bk wT hY W1 hb (qN.turn (Ee hbl2 none) (fun r e=>by cases e))
 case done=>
  rintro D W2 hD ⟨q,hs⟩ hK;obtain ⟨v,hv,UN,-⟩:=hs.o;have hc:=hv.cell;have Oo:=Za (hs.turn (grownBy_putObj' W2 D (.deferred none)) (fun r e=>by cases e; exact ⟨by omega,_,hK,rfl⟩));have HR2:=Za (ownsRow_putObj UN (.deferred none) hK rfl);have HHX:=Za hX;clear hs UN hv HI hX NC hXl
  gi_wp2
  refine ⟨by simp,.inl ⟨_,_,rfl,run_takeDeferred hK,?_⟩⟩;rw [HHX.o];exact ⟨_,results_tmp rfl _ _ _,v,rfl,Fx HR2.o Zf,Oo.o.ring,Oo.o.kept⟩
theorem dy (hr:Yv 148 3 1 w b go sz L.length (L.map (ZI .i64)))(hu:Ot w (QU b go) a Lw)(hL:Lw.length<=9223372036854775807)(hA:Mi Lw)(hl:BH lim) :
  Calls Zb 204 #[.pointer (some ⟨b,0,none⟩),.int .u64 lim,.slice a Lw.length cap] w (PB w b go sz L (FP lim (L.map (Ks Lw)))):=
 (callsIn_wide (n:=6)).1 (yR Fence.wide 6 rfl (Zh _) hr hu hL hA hl)
end
end
end Go.Proofs.YtobgbcdgffgdhaaGreat
