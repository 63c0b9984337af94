/- Part 45 of 58: L14Step. -/
import Derived.Test.YtianiiijaopdpaaGreatZu00
import Derived.Test.YtianiiijaopdpaaGreatZu44
import Derived.Laws.EntriesVeiled
namespace Go.Proofs.YtianiiijaopdpaaGreat
set_option linter.unusedVariables false
set_option linter.unusedSimpArgs false
set_option maxRecDepth 100000
set_option maxHeartbeats 8000000
open _root_.And renaming intro → Zl
open _root_.Array renaming replicate_succ → QP, replicate_zero → QQ
open _root_.Go.Proofs.YtianiiijaopdpaaGreat.Zy renaming new → Zw
open _root_.Go.Instr renaming makeFunc → Jj
open _root_.Go.Proofs.YtianiiijaopdpaaGreat.Kept renaming of_below → Y4
open _root_.Go.Lib renaming hid → Za
open _root_.List renaming append_toArray → Jc, cons_append → Ym, length_cons → Yu, length_nil → Jn, nil_append → Q5, push_toArray → JC, size_toArray → Jg
open _root_.Nat renaming add_assoc → Jy, le_refl → Zg, reduceAdd → JZ, reduceSub → K9
open _root_.Go.Proofs.Tryz renaming prog → Zb
open _root_.Go renaming Value → Zo, World → Zc, undef → K8
open _root_.Go.Value renaming int → ZX
open _root_.Go.World renaming size_alloc → Q9
section
open Go Go.RowKit Go.Shelf
attribute [local go_sem] Oper.semAt_some
def O7 (w:Zc)(b:Nat)(go:Option Nat)(sz:Nat)(L:List Int)(B:Nat)(e:Ending)(w':Zc) :Prop:=
 ∃v,e= .returned v∧w'.ownsRow w.heap.size 3 1 v B ((L.take B).map (ZX .i64))∧RingAt 189 3 1 w' b go sz (L.length - B) ((L.drop B).map (ZX .i64))∧Kept (Foot b go) w w'
theorem Fz {w:Zc}{base e k n:Nat}{v:Zo}{xs:List Zo}(h:w.ownsRow base e k v n xs){B:Nat}(hB:B≤base) :w.ownsRow B e k v n xs:=by
 exact Zal
theorem kO (b:Nat)(fn:Fn)(cs:Array Zo)(w:Zc)(F:Fence)(n:Nat)(hf:F.fn 262)(Pf:F.round=none) :
  CallsIn F n Zb 262 #[.pointer (some ⟨b,0,none⟩),.func fn #[] cs] w fun e w'=>e= .returned (.func (.func 295) #[] #[.pointer (some ⟨w.heap.size,0,none⟩),.pointer (some ⟨w.heap.size+1,0,none⟩)])∧
   w'=(w.alloc (.cells #[.pointer (some ⟨b,0,none⟩)] 100)).alloc (.cells #[.func fn #[] cs] 147):=by
 have IZ: ∀(fn:Fn) (first cap:Array Zo) (w:Zc),(Jj fn first cap).run Zb w= .ok (.func fn first cap) w:=fun _ _ _ _=>rfl
 refine callsIn_of_wp Tryz.func262 rfl hf ?_ Pf;simp only [Tryz.ntmps262,Jg,Yu,Jn,JZ,K9,QP,QQ,JC,Jc,Q5,Ym]
 gi_wp2
 go_ret;exact BV
section
variable {w W w1:Zc} {b:Nat} {go:Option Nat} {sz:Nat} {L:List Int} {wv:Zo} {lim:Int} {p:Nat × Int} {k x:Nat}
def W0 (w1:Zc)(b z:Nat) :Zc:=
 (((w1.alloc (.cells #[Ng (z+1)] 324)).alloc (.cells #[.slice none 0 0] 47)).alloc (.cells #[.pointer (some ⟨b,0,none⟩)] 100)).alloc (.cells #[ml z] 147)
theorem gQ (hr:RingAt 189 3 1 w b go sz L.length (L.map (ZX .i64)))(hb:P0 w1 (w.heap.size+1) lim (0,0))(bl:Below (w.heap.size+1) (w.alloc (.cells #[wv] 143)) w1)(hz:w1.heap.size=w.heap.size+1+3) :
  Sq w b go sz L wv lim (0,0) 0 0 (W0 w1 b w.heap.size)∧(W0 w1 b w.heap.size).heap.size=w.heap.size+8:=by
 have e1:Below w.heap.size w w1:=((Below.refl _ w).alloc (Zg _) _).trans (bl.mono Zp);have n1:=Zw w1 324 #[Ng (w.heap.size+1)];have n2:=Zw (w1.alloc (.cells #[Ng (w.heap.size+1)] 324)) 47 #[.slice none 0 0];have n3:=Zw ((w1.alloc (.cells #[Ng (w.heap.size+1)] 324)).alloc (.cells #[.slice none 0 0] 47)) 100 #[.pointer (some ⟨b,0,none⟩)];have n4:=Zw (((w1.alloc (.cells #[Ng (w.heap.size+1)] 324)).alloc (.cells #[.slice none 0 0] 47)).alloc (.cells #[.pointer (some ⟨b,0,none⟩)] 100)) 147 #[ml w.heap.size];simp only [Q9,hz,Jy,JZ] at n1 n2 n3 n4;have kept:Kept (Foot b go) w (W0 w1 b w.heap.size):=((((Y4 (S:=Foot b go) e1).alloc _).alloc _).alloc _).alloc _;have wb:Zy w1 w.heap.size 143 #[wv]:=(Zw w 143 #[wv]).below bl Zp;refine ⟨⟨?_,⟨(((hb.1.alloc _).alloc _).alloc _).alloc _,(((hb.2.1.alloc _).alloc _).alloc _).alloc _,(((hb.2.2.alloc _).alloc _).alloc _).alloc _⟩,(((wb.alloc _).alloc _).alloc _).alloc _,((n1.alloc _).alloc _).alloc _,n3.alloc _,n4,⟨.slice none 0 0,(n2.alloc _).alloc _,World.ownsRow_nil _ _ _ _,trivial⟩,kept⟩,by simp [W0,hz]⟩;exact hr.kept (S:=fun _=>False) (((((Y4 (S:=fun _=>False) e1).alloc _).alloc _).alloc _).alloc _) (fun _ _ h=>h)
theorem Sq.collect {v v':Zo}{tmp:Obj}(h:Sq w b go sz L wv lim p (x+1) x W)(XJ: ∀i,Foot b go i→i < w.heap.size)(hv:Boxed W (w.heap.size+5) 47 v)(VZ:W.ownsRow (w.heap.size+8) 3 1 v x ((L.take x).map (ZX .i64)))(hx:x < L.length)(Du:w.heap.size+8≤W.heap.size)
  (ME:w1.ownsRow (w.heap.size+8) 3 1 v' (x+1) ((L.take x).map (ZX .i64)++[.int .i64 (L.getD x 0)])) (FT:(W.alloc tmp).grownBy w1 v.ownBlock) :
  Boxed w1 (w.heap.size+5) 47 v∧Sq w b go sz L wv lim p (x+1) (x+1) (w1.setCell ⟨w.heap.size+5,0,none⟩ v')∧KeepsOthers W (w1.setCell ⟨w.heap.size+5,0,none⟩ v'):=by
 obtain ⟨a1,a2,a3,a4,-⟩:=Boxed.appended (n₀:=w.heap.size+5) (B:=w.heap.size+5) hv Xh (Fz VZ Zp) Zp (Zg _) (Fz ME Zp) FT;have K:Kept (fun i=>i=w.heap.size+5∨v.ownBlock=some i) W (w1.setCell ⟨w.heap.size+5,0,none⟩ v'):=
  (((Kept.refl _ W).alloc tmp).trans (Kept.of_grown (S:=fun i=>v.ownBlock=some i) FT (fun i e=>e.symm)) (fun _ _ e=> .inr e)).setCell (.inl (.inl rfl)) v'
 have nk: ∀i,i < w.heap.size+8→i≠w.heap.size+5→ ¬(i=w.heap.size+5∨v.ownBlock=some i):=fun i h1 h2 e=>e.elim h2 (fun e=>by have:=(VZ.lt i e).1; omega)
 refine ⟨a1,⟨h.ring.kept K (fun i hi=>nk i (by have:=XJ i hi; omega) (by have:=XJ i hi; omega)),h.bnd.kept K (fun i h1 h2=>nk i Zp Zp),h.fw.kept K (nk _ Zp Zp),h.fb.kept K (nk _ Zp Zp),h.fq.kept K (nk _ Zp Zp),h.fn.kept K (nk _ Zp Zp),⟨v',a2,?_,trivial⟩,h.kept.trans K (fun i hi e=>(nk i Zp Zp e).elim)⟩,a4⟩;have Kt: ∀i,v'.ownBlock=some i→i≠w.heap.size+5:=fun i e=>by have:=(ME.lt i e).1; omega
 have ho:=FA (W':=w1.setCell ⟨w.heap.size+5,0,none⟩ v') ME (fun i e=>Below.heap_setCell _ _ _ _ (Kt i e));rw [List.take_succ_eq_append_getElem hx,List.map_append];rw [List.getD_eq_getElem?_getD,List.getElem?_eq_getElem hx] at ho;exact ho
end
section
variable {w:Zc} {b:Nat} {go:Option Nat} {sz:Nat} {L Lw:List Int} {a:Option Addr} {cap:Nat} {lim:Int}
theorem yd (F:Fence)(n:Nat)(tJ:F=Fence.wide)(hn:6≤n)(hr:RingAt 189 3 1 w b go sz L.length (L.map (ZX .i64)))(hu:N9 w (Foot b go) a Lw)(hL:Lw.length≤9223372036854775807)(hA:LX Lw)(hl:BQ lim) :
  CallsIn F n Zb 215 #[.pointer (some ⟨b,0,none⟩),.int .u64 lim,.slice a Lw.length cap] w (O7 w b go sz L (FQ lim (L.map (Kz Lw)))):=by
 have h1:1≤n:=by omega
 have Pf:F.round=none:=by rw [tJ]; rfl
 have hf: ∀k,F.fn k:=fun k=>by rw [tJ]; trivial
 have HC:Hid (∀(f n:Nat) (args:Array Zo) (w:Zc) (R:Ending→Zc→Prop),Calls Zb f args w R→CallsIn F n Zb f args w R):=Za (fun f n args w R h=>by rw [tJ]; exact callsIn_wide.2 h);have HFW:=Za tJ;have HR:=Za hr;have IZ: ∀(fn:Fn) (first cap:Array Zo) (w:Zc),(Jj fn first cap).run Zb w= .ok (.func fn first cap) w:=fun _ _ _ _=>rfl
 clear tJ hr;refine callsIn_of_wp_marks Tryz.func215 rfl (hf _) ?_ Pf;simp only [Tryz.ntmps215,Jg,Yu,Jn,JZ,K9,QP,QQ,JC,Jc,Q5,Ym]
 gi_wp2_with (first | (gi_at_call 259; refine (HC.out _ _ _ _ _ (R7 lim _)).mono ?_; rintro e w1 ⟨rfl,EO,bl1,BN⟩; rw [Q9] at EO bl1 BN; unfold Ng; have HZ1:=Za (Zl EO (Zl bl1 BN)); clear EO bl1 BN) | (gi_at_call 262; refine (kO b _ _ _ F (n - 1) (hf _) Pf).mono ?_; rintro e w2 ⟨rfl,rfl⟩))
 obtain ⟨pX,BM⟩:=gQ (L:=L) HR.out HZ1.out.1 HZ1.out.2.1 HZ1.out.2.2;have hzz:=HZ1.out.2.2;have XJ:=HR.out.lt;have hLL:=HR.out.size_le;rw [hzz];simp only [Jy,JZ];show Code.wpIn _ _ _ _ _ _ (W0 w1 b w.heap.size);generalize W0 w1 b w.heap.size=W at*;clear HZ1 hzz IZ;obtain ⟨X,hX⟩ : ∃X,L.map (Kz Lw)=X:=⟨_,rfl⟩;have hXl:X.length=L.length:=by rw [←hX]; exact List.length_map ..
 have Mf:FQ lim X≤L.length:=by rw [←hXl]; exact Cl X
 rw [hX];obtain ⟨i0,hi,hz0',BN,M5⟩:=LI;have HI:=Za (fun l Bk vM=>kN (L:=L) (sz:=sz) (cap:=cap) F (n - 1) HFW.out Zp l Bk W.heap.size Zp vM XJ hu hL hA hl Zp);rw [hX] at HI;refine Ly Pf h1 (gf:=295) (lb:= #[.pointer (some ⟨w.heap.size+6,0,none⟩),.pointer (some ⟨w.heap.size+7,0,none⟩)]) rfl (hf _) (enters_of Tryz.func295 Yi rfl)
  (encs:=fun x:Nat=> #[.int .i64 (L.getD x 0)]) (fun _=>rfl)
  (fun x W'=>x < FQ lim X∧Sq w b go sz L (.slice a Lw.length cap) lim (da X (x+1)) (x+1) x W')
  (fun x W'=>x < FQ lim X∧Sq w b go sz L (.slice a Lw.length cap) lim (da X (x+1)) (x+1) (x+1) W')
  (fun W'=> ∃q,Sq w b go sz L (.slice a Lw.length cap) lim q (FQ lim X) (FQ lim X) W')
  (fun s A B' row h hg hr=>⟨h.1,Sq.own Zp (fun x=>da X (x+1)) (fun x=>x+1) (fun x=>x) s A B' row h.2 hg hr⟩)
  (fun s A B' row h hg hr=>⟨h.1,Sq.own Zp (fun x=>da X (x+1)) (fun x=>x+1) (fun x=>x+1) s A B' row h.2 hg hr⟩)
  (fun s A B' row h hg hr=>h.imp fun q h=>Sq.own Zp (fun _=>q) (fun _=>FQ lim X) (fun _=>FQ lim X) 0 A B' row h hg hr)
  (fun x=> { tmps:= #[.pointer (some ⟨b,0,none⟩),.int .u64 lim,.slice a Lw.length cap,K8,K8,.pointer (some ⟨w.heap.size,0,none⟩),.slice none 0 0,.pointer (some ⟨w.heap.size+4,0,none⟩),ml w.heap.size,.pointer (some ⟨w.heap.size+5,0,none⟩),.int .i64 (L.getD x 0),.int .u64 lim,Ng (w.heap.size+1),ml w.heap.size,.pointer (some ⟨b,0,none⟩),ml w.heap.size,.func (.func 295) #[] #[.pointer (some ⟨w.heap.size+6,0,none⟩),.pointer (some ⟨w.heap.size+7,0,none⟩)],.int .i64 (L.getD x 0),K8,K8,K8,K8,K8],defers:= []}) ?assign ?body ?it ?done
 case assign=>
  intro l x W K hK
  gi_wp2
  exact hK
 case body=>
  rintro l x W1 ⟨hx,hs⟩;obtain ⟨v,hv,VZ,-⟩:=hs.out;have hc:=hv.cell;have hxl:x < L.length:=by omega
  have Du:w.heap.size+8≤W1.heap.size:=hs.fn.lt;obtain ⟨y,hy⟩ : ∃y,L.getD x 0=y:=⟨_,rfl⟩;have HSQ:=Za (fun (v':Zo) (w1:Zc) (tmp:Obj)=>Sq.collect (w1:=w1) (v':=v') (tmp:=tmp) hs XJ hv VZ hxl Du);rw [hy] at HSQ ⊢;have HROW:=Za VZ;have HXX:=Za hx;clear hs VZ hy hx HI pX XJ
  gi_wp2_with (gi_at_builtin; refine wpListIn_append_own _ rfl _ _ 47 rfl (w.heap.size+8) 3 i0 (.int .i64 0) 1 8 Tryz.underlying47 hi hz0' BN M5 rfl Xh _ _ _ rfl (HROW.out.alloc _) ⟨W1.heap.size,0,none⟩ 1 1 [.int .i64 y] rfl rfl (oW _ _ _) (by simp [Value.oneCell']) N4 Zp Vq ?_; intro v' w1 hown' FT _; obtain ⟨g',cap',rfl⟩:=ownsRow_succ hown'; obtain ⟨hv1,I0,Rd⟩:=HSQ.out _ w1 _ hown' FT; have Ns:=hv1.cell; have tM:=hv1.frozen; have uK:=Za (Zl I0 Rd); clear hown' FT I0 Rd)
  exact ⟨uK.out.2.from _,HXX.out,uK.out.1⟩
 case it=>
  intro l Bk vM hY W1 hb hbl2;exact HI.out l Bk vM hY W1 hb (pX.turn (Eo hbl2 none) (fun r e=>by cases e))
 case done=>
  rintro D W2 hD ⟨q,hs⟩ hK;obtain ⟨v,hv,VZ,-⟩:=hs.out;have hc:=hv.cell;have DU:=Za (hs.turn (grownBy_putObj' W2 D (.deferred none)) (fun r e=>by cases e; exact ⟨by omega,_,hK,rfl⟩));have Wc:=Za (ownsRow_putObj VZ (.deferred none) hK rfl);have HHX:=Za hX;clear hs VZ hv HI hX Mf hXl
  gi_wp2
  refine ⟨by simp,.inl ⟨_,_,rfl,run_takeDeferred hK,?_⟩⟩;rw [HHX.out];exact ⟨_,results_tmp rfl _ _ _,v,rfl,Fz Wc.out Zp,DU.out.ring,DU.out.kept⟩
theorem dd (hr:RingAt 189 3 1 w b go sz L.length (L.map (ZX .i64)))(hu:N9 w (Foot b go) a Lw)(hL:Lw.length≤9223372036854775807)(hA:LX Lw)(hl:BQ lim) :
  Calls Zb 215 #[.pointer (some ⟨b,0,none⟩),.int .u64 lim,.slice a Lw.length cap] w (O7 w b go sz L (FQ lim (L.map (Kz Lw)))):=
 (callsIn_wide (n:=6)).1 (yd Fence.wide 6 rfl (Zg _) hr hu hL hA hl)
end
end
end Go.Proofs.YtianiiijaopdpaaGreat
