/- Part 22 of 34: L14Step. -/
import Derived.Test.YtobgbcdgffgdhaaGreatZx00
import Derived.Test.YtobgbcdgffgdhaaGreatZx17
import Derived.Laws.EntriesVeiled
namespace Go.Proofs.YtobgbcdgffgdhaaGreat
set_option linter.unusedVariables false
set_option linter.unusedSimpArgs false
set_option maxRecDepth 100000
set_option maxHeartbeats 8000000
open _root_.And renaming intro -> Zm
open _root_.Array renaming replicate_succ -> X9, replicate_zero -> Qb
open _root_.Go.Proofs.YtobgbcdgffgdhaaGreat.Zu renaming new -> Zs
open _root_.Go.Instr renaming makeFunc -> Q5
open _root_.Go.Proofs.YtobgbcdgffgdhaaGreat.ZA renaming of_below -> Y9
open _root_.List renaming append_toArray -> Qn, cons_append -> Yf, length_cons -> Yg, length_nil -> QK, nil_append -> Qo, push_toArray -> QV, size_toArray -> Qt
open _root_.Nat renaming add_assoc -> Jn, le_refl -> Zh, reduceAdd -> Jo, reduceSub -> J6
open _root_.Go.Proofs.Tryz renaming prog -> Zb
open _root_.Go renaming Value -> Zl, World -> Zc, undef -> KJ
open _root_.Go.Value renaming int -> ZG
open _root_.Go.World renaming size_alloc -> Jf
open Go.Proofs.Tryz
section
open Go Go.RowKit Go.Shelf
attribute [local go_sem] Oper.semAt_some
def Sr (w:Zc)(b:Nat)(go:Option Nat)(sz:Nat)(L:List Int)(B:Nat)(e:Ending)(w':Zc) :Prop:=
 ∃v,e= .returned v/\w'.ownsRow w.heap.size 3 1 v B ((L.take B).map (ZG .i64))/\YG 148 3 1 w' b go sz (L.length - B) ((L.drop B).map (ZG .i64))/\ZA (Je b go) w w'
theorem Le {w:Zc}{base e k n:Nat}{v:Zl}{xs:List Zl}(h:w.ownsRow base e k v n xs){B:Nat}(hB:B<=base) :w.ownsRow B e k v n xs:=yP
theorem p4 (b:Nat)(fn:Fn)(cs:Array Zl)(w:Zc)(F:Fence)(n:Nat)(hf:F.fn 240)(Rf:F.round=none) :
  CallsIn F n Zb 240 #[.pointer (some ⟨b,0,none⟩),.func fn #[] cs] w fun e w'=>e= .returned (.func (.func 269) #[] #[.pointer (some ⟨w.heap.size,0,none⟩),.pointer (some ⟨w.heap.size+1,0,none⟩)])/\
   w'=(w.alloc (.cells #[.pointer (some ⟨b,0,none⟩)] 95)).alloc (.cells #[.func fn #[] cs] 65):=by
 have bR: ∀(fn:Fn) (first cap:Array Zl) (w:Zc),(Q5 fn first cap).run Zb w= .ok (.func fn first cap) w:=fun _ _ _ _=>rfl
 refine callsIn_of_wp func240 rfl hf ?_ Rf;simp only [ntmps240,Qt,Yg,QK,Jo,J6,X9,Qb,QV,Qn,Qo,Yf]
 gi_wp2
 go_ret;exact Gw
section
variable {w W w1:Zc} {b:Nat} {go:Option Nat} {sz:Nat} {L:List Int} {wv:Zl} {lim:Int} {p:Nat × Int} {k x:Nat}
def W0 (w1:Zc)(b z:Nat) :Zc:=
 (((w1.alloc (.cells #[Pa (z+1)] 282)).alloc (.cells #[.slice none 0 0] 24)).alloc (.cells #[.pointer (some ⟨b,0,none⟩)] 95)).alloc (.cells #[rH z] 65)
theorem mz (hr:YG 148 3 1 w b go sz L.length (L.map (ZG .i64)))(hb:CI w1 (w.heap.size+1) lim (0,0))(bl:Below (w.heap.size+1) (w.alloc (.cells #[wv] 121)) w1)(hz:w1.heap.size=w.heap.size+1+3) :
  Sq w b go sz L wv lim (0,0) 0 0 (W0 w1 b w.heap.size)/\(W0 w1 b w.heap.size).heap.size=w.heap.size+8:=by
 have e1:Below w.heap.size w w1:=((Below.refl _ w).alloc (Zh _) _).trans (bl.mono Zf);have n1:=Zs w1 282 #[Pa (w.heap.size+1)];have n2:=Zs (w1.alloc (.cells #[Pa (w.heap.size+1)] 282)) 24 #[.slice none 0 0];have n3:=Zs ((w1.alloc (.cells #[Pa (w.heap.size+1)] 282)).alloc (.cells #[.slice none 0 0] 24)) 95 #[.pointer (some ⟨b,0,none⟩)];have n4:=Zs (((w1.alloc (.cells #[Pa (w.heap.size+1)] 282)).alloc (.cells #[.slice none 0 0] 24)).alloc (.cells #[.pointer (some ⟨b,0,none⟩)] 95)) 65 #[rH w.heap.size];simp only [Jf,hz,Jn,Jo] at n1 n2 n3 n4;have kept:ZA (Je b go) w (W0 w1 b w.heap.size):=((((Y9 (S:=Je b go) e1).alloc _).alloc _).alloc _).alloc _;have wb:Zu w1 w.heap.size 121 #[wv]:=(Zs w 121 #[wv]).below bl Zf;refine ⟨⟨?_,⟨(((hb.1.alloc _).alloc _).alloc _).alloc _,(((hb.2.1.alloc _).alloc _).alloc _).alloc _,(((hb.2.2.alloc _).alloc _).alloc _).alloc _⟩,(((wb.alloc _).alloc _).alloc _).alloc _,((n1.alloc _).alloc _).alloc _,n3.alloc _,n4,⟨.slice none 0 0,(n2.alloc _).alloc _,World.ownsRow_nil _ _ _ _,trivial⟩,kept⟩,by simp [W0,hz]⟩;exact hr.kept (S:=fun _=>False) (((((Y9 (S:=fun _=>False) e1).alloc _).alloc _).alloc _).alloc _) (fun _ _ h=>h)
theorem Sq.collect {v v':Zl}{tmp:Obj}(h:Sq w b go sz L wv lim p (x+1) x W)(XJ: ∀i,Je b go i->i < w.heap.size)(hv:Boxed W (w.heap.size+5) 24 v)(GA:W.ownsRow (w.heap.size+8) 3 1 v x ((L.take x).map (ZG .i64)))(hx:x < L.length)(BK:w.heap.size+8<=W.heap.size)
  (Oj:w1.ownsRow (w.heap.size+8) 3 1 v' (x+1) ((L.take x).map (ZG .i64)++[.int .i64 (L.getD x 0)])) (LD:(W.alloc tmp).grownBy w1 v.ownBlock) :
  Boxed w1 (w.heap.size+5) 24 v/\Sq w b go sz L wv lim p (x+1) (x+1) (w1.setCell ⟨w.heap.size+5,0,none⟩ v')/\KeepsOthers W (w1.setCell ⟨w.heap.size+5,0,none⟩ v'):=by
 obtain ⟨a1,a2,a3,a4,-⟩:=Boxed.appended (n₀:=w.heap.size+5) (B:=w.heap.size+5) hv Y5 (Le GA Zf) Zf (Zh _) (Le Oj Zf) LD;have K:ZA (fun i=>i=w.heap.size+5\/v.ownBlock=some i) W (w1.setCell ⟨w.heap.size+5,0,none⟩ v'):=
  (((ZA.refl _ W).alloc tmp).trans (ZA.of_grown (S:=fun i=>v.ownBlock=some i) LD (fun i e=>e.symm)) (fun _ _ e=> .inr e)).setCell (.inl (.inl rfl)) v'
 have nk: ∀i,i < w.heap.size+8->i≠w.heap.size+5-> ¬(i=w.heap.size+5\/v.ownBlock=some i):=fun i h1 h2 e=>e.elim h2 (fun e=>by have:=(GA.lt i e).1; omega)
 refine ⟨a1,⟨h.ring.kept K (fun i hi=>nk i (by have:=XJ i hi; omega) (by have:=XJ i hi; omega)),h.bnd.kept K (fun i h1 h2=>nk i Zf Zf),h.fw.kept K (nk _ Zf Zf),h.fb.kept K (nk _ Zf Zf),h.fq.kept K (nk _ Zf Zf),h.fn.kept K (nk _ Zf Zf),⟨v',a2,?_,trivial⟩,h.kept.trans K (fun i hi e=>(nk i Zf Zf e).elim)⟩,a4⟩;have Kj: ∀i,v'.ownBlock=some i->i≠w.heap.size+5:=fun i e=>by have:=(Oj.lt i e).1; omega
 have ho:=Lf (W':=w1.setCell ⟨w.heap.size+5,0,none⟩ v') Oj (fun i e=>Below.heap_setCell _ _ _ _ (Kj i e));rw [List.take_succ_eq_append_getElem hx,List.map_append];rw [List.getD_eq_getElem?_getD,List.getElem?_eq_getElem hx] at ho;exact ho
end
section
variable {w:Zc} {b:Nat} {go:Option Nat} {sz:Nat} {L Lw:List Int} {a:Option Addr} {cap:Nat} {lim:Int}
theorem Zds (F:Fence)(n:Nat)(hFw:F=Fence.wide)(hn:6<=n)(hr:YG 148 3 1 w b go sz L.length (L.map (ZG .i64)))(hu:Ss w (Je b go) a Lw)(hL:Lw.length<=9223372036854775807)(hA:NI Lw)(hl:DU lim) :
  CallsIn F n Zb 204 #[.pointer (some ⟨b,0,none⟩),.int .u64 lim,.slice a Lw.length cap] w (Sr w b go sz L (LC lim (L.map (KK Lw)))):=by
 have h1:1<=n:=Zf;have Rf:F.round=none:=by rw [hFw]; rfl
 have hf: ∀k,F.fn k:=fun k=>by rw [hFw]; trivial
 have HC:Zj (∀(f n:Nat) (args:Array Zl) (w:Zc) (R:Ending->Zc->Prop),Calls Zb f args w R->CallsIn F n Zb f args w R):=Za (fun f n args w R h=>by rw [hFw]; exact callsIn_wide.2 h);have HFW:=Za hFw;have HR:=Za hr;have bR: ∀(fn:Fn) (first cap:Array Zl) (w:Zc),(Q5 fn first cap).run Zb w= .ok (.func fn first cap) w:=fun _ _ _ _=>rfl
 clear hFw hr;refine callsIn_of_wp_marks func204 rfl (hf _) ?_ Rf;simp only [ntmps204,Qt,Yg,QK,Jo,J6,X9,Qb,QV,Qn,Qo,Yf]
 gi_wp2_with (first | (gi_at_call 237; refine (HC.o _ _ _ _ _ (WA lim _)).mono ?_; rintro e w1 ⟨rfl,Hj,bl1,GF⟩; rw [Jf] at Hj bl1 GF; unfold Pa; have HZ1:=Za (Zm Hj (Zm bl1 GF)); clear Hj bl1 GF) | (gi_at_call 240; refine (p4 b _ _ _ F (n - 1) (hf _) Rf).mono ?_; rintro e w2 ⟨rfl,rfl⟩))
 obtain ⟨vt,GO⟩:=mz (L:=L) HR.o HZ1.o.1 HZ1.o.2.1 HZ1.o.2.2;have hzz:=HZ1.o.2.2;have XJ:=HR.o.lt;have hLL:=HR.o.size_le;rw [hzz];simp only [Jn,Jo];show Code.wpIn _ _ _ _ _ _ (W0 w1 b w.heap.size);generalize W0 w1 b w.heap.size=W at*;clear HZ1 hzz bR;obtain ⟨X,hX⟩:=ZR (L.map (KK Lw));have hXl:X.length=L.length:=by rw [<-hX]; exact List.length_map ..
 have Pq:LC lim X<=L.length:=by rw [<-hXl]; exact bo X
 rw [hX];obtain ⟨i0,hi,hz0',GF,EO⟩:=Gj;have HI:=Za (fun l Bk hBk=>pZ (L:=L) (sz:=sz) (cap:=cap) F (n - 1) HFW.o Zf l Bk W.heap.size Zf hBk XJ hu hL hA hl Zf);rw [hX] at HI;refine M9 Rf h1 (gf:=269) (lb:= #[.pointer (some ⟨w.heap.size+6,0,none⟩),.pointer (some ⟨w.heap.size+7,0,none⟩)]) rfl (hf _) (enters_of func269 ZC rfl)
  (encs:=fun x:Nat=> #[.int .i64 (L.getD x 0)]) (fun _=>rfl)
  (fun x W'=>x < LC lim X/\Sq w b go sz L (.slice a Lw.length cap) lim (iO X (x+1)) (x+1) x W')
  (fun x W'=>x < LC lim X/\Sq w b go sz L (.slice a Lw.length cap) lim (iO X (x+1)) (x+1) (x+1) W')
  (fun W'=> ∃q,Sq w b go sz L (.slice a Lw.length cap) lim q (LC lim X) (LC lim X) W')
  (fun s A B' row h hg hr=>⟨h.1,Sq.own Zf (fun x=>iO X (x+1)) (fun x=>x+1) (fun x=>x) s A B' row h.2 hg hr⟩)
  (fun s A B' row h hg hr=>⟨h.1,Sq.own Zf (fun x=>iO X (x+1)) (fun x=>x+1) (fun x=>x+1) s A B' row h.2 hg hr⟩)
  (fun s A B' row h hg hr=>h.imp fun q h=>Sq.own Zf (fun _=>q) (fun _=>LC lim X) (fun _=>LC lim X) 0 A B' row h hg hr)
  (fun x=> { tmps:= #[.pointer (some ⟨b,0,none⟩),.int .u64 lim,.slice a Lw.length cap,KJ,KJ,.pointer (some ⟨w.heap.size,0,none⟩),.slice none 0 0,.pointer (some ⟨w.heap.size+4,0,none⟩),rH w.heap.size,.pointer (some ⟨w.heap.size+5,0,none⟩),.int .i64 (L.getD x 0),.int .u64 lim,Pa (w.heap.size+1),rH w.heap.size,.pointer (some ⟨b,0,none⟩),rH w.heap.size,.func (.func 269) #[] #[.pointer (some ⟨w.heap.size+6,0,none⟩),.pointer (some ⟨w.heap.size+7,0,none⟩)],.int .i64 (L.getD x 0),KJ,KJ,KJ,KJ,KJ],defers:= []}) ?assign ?body ?it ?done
 case assign=>
  intro l x W K hK
  gi_wp2
  exact hK
 case body=>
  rintro l x W1 ⟨hx,hs⟩;obtain ⟨v,hv,GA,-⟩:=hs.o;have hc:=hv.cell;have hxl:x < L.length:=Zf;have BK:w.heap.size+8<=W1.heap.size:=hs.fn.lt;obtain ⟨y,hy⟩:=ZR (L.getD x 0);have HSQ:=Za (fun (v':Zl) (w1:Zc) (tmp:Obj)=>Sq.collect (w1:=w1) (v':=v') (tmp:=tmp) hs XJ hv GA hxl BK);rw [hy] at HSQ ⊢;have HROW:=Za GA;have HXX:=Za hx;clear hs GA hy hx HI vt XJ
  gi_wp2_with (gi_at_builtin; refine wpListIn_append_own _ rfl _ _ 24 rfl (w.heap.size+8) 3 i0 (.int .i64 0) 1 8 underlying24 hi hz0' GF EO rfl Y5 _ _ _ rfl (HROW.o.alloc _) ⟨W1.heap.size,0,none⟩ 1 1 [.int .i64 y] rfl rfl (uA _ _ _) BW Vx Zf Xo ?_; intro v' w1 hown' LD _; obtain ⟨g',cap',rfl⟩:=ownsRow_succ hown'; obtain ⟨Al,gd,TU⟩:=HSQ.o _ w1 _ hown' LD; have OO:=Al.cell; have hf1:=Al.frozen; have HR1:=Za (Zm gd TU); clear hown' LD gd TU)
  exact ⟨HR1.o.2.from _,HXX.o,HR1.o.1⟩
 case it=>
  intro l Bk hBk hY W1 hb hbl2;exact HI.o l Bk hBk hY W1 hb (vt.turn (FC hbl2 none) (fun r e=>by cases e))
 case done=>
  rintro D W2 hD ⟨q,hs⟩ hK;obtain ⟨v,hv,GA,-⟩:=hs.o;have hc:=hv.cell;have Hi:=Za (hs.turn (grownBy_putObj' W2 D (.deferred none)) (fun r e=>by cases e; exact ⟨by omega,_,hK,rfl⟩));have HR2:=Za (ownsRow_putObj GA (.deferred none) hK rfl);have HHX:=Za hX;clear hs GA hv HI hX Pq hXl
  gi_wp2
  refine ⟨by simp,.inl ⟨_,_,rfl,run_takeDeferred hK,?_⟩⟩;rw [HHX.o];exact ⟨_,results_tmp rfl _ _ _,v,rfl,Le HR2.o Zf,Hi.o.ring,Hi.o.kept⟩
theorem iR (hr:YG 148 3 1 w b go sz L.length (L.map (ZG .i64)))(hu:Ss w (Je b go) a Lw)(hL:Lw.length<=9223372036854775807)(hA:NI Lw)(hl:DU lim) :
  Calls Zb 204 #[.pointer (some ⟨b,0,none⟩),.int .u64 lim,.slice a Lw.length cap] w (Sr w b go sz L (LC lim (L.map (KK Lw)))):=
 (callsIn_wide (n:=6)).1 (Zds Fence.wide 6 rfl (Zh _) hr hu hL hA hl)
end
end
end Go.Proofs.YtobgbcdgffgdhaaGreat
