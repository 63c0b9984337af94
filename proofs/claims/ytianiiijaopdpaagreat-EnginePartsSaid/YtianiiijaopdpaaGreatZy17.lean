/- Part 17 of 29: L14Step. -/
import Derived.Test.YtianiiijaopdpaaGreatZy00
import Derived.Test.YtianiiijaopdpaaGreatZy14
import Derived.Laws.EntriesVeiled
namespace Go.Proofs.YtianiiijaopdpaaGreat
set_option linter.unusedVariables false
set_option linter.unusedSimpArgs false
set_option maxRecDepth 100000
set_option maxHeartbeats 8000000
open _root_.And renaming intro → Zh
open _root_.Array renaming replicate_succ → QP, replicate_zero → QQ
open _root_.Go.Proofs.YtianiiijaopdpaaGreat.Blk renaming new → Zv
open _root_.Go.Instr renaming makeFunc → Jm
open _root_.Go.Proofs.YtianiiijaopdpaaGreat.Kept renaming of_below → YP
open _root_.Go.Lib renaming hid → Za
open _root_.List renaming append_toArray → Ja, cons_append → Yh, length_cons → Yp, length_nil → Jr, nil_append → QY, push_toArray → JK, size_toArray → Jh
open _root_.Nat renaming add_assoc → JH, le_refl → Zg, reduceAdd → J7, reduceSub → Vn
open _root_.Go.Proofs.Tryz renaming prog → Zb
open _root_.Go renaming Value → Zl, World → Zc, undef → Vm
open _root_.Go.Value renaming int → ZR
open _root_.Go.World renaming size_alloc → Q5
section
open Go Go.RowKit Go.Shelf
attribute [local go_sem] Oper.semAt_some
def OT (w:Zc)(b:Nat)(go:Option Nat)(sz:Nat)(L:List Int)(B:Nat)(e:Ending)(w':Zc) :Prop:=
 ∃v,e= .returned v∧w'.ownsRow w.heap.size 3 1 v B ((L.take B).map (ZR .i64))∧RingAt 189 3 1 w' b go sz (L.length - B) ((L.drop B).map (ZR .i64))∧Kept (Foot b go) w w'
theorem FD {w:Zc}{base e k n:Nat}{v:Zl}{xs:List Zl}(h:w.ownsRow base e k v n xs){B:Nat}(hB:B≤base) :w.ownsRow B e k v n xs:=by
 exact rM
theorem jS (b:Nat)(fn:Fn)(cs:Array Zl)(w:Zc)(F:Fence)(n:Nat)(hf:F.fn 262)(O4:F.round=none) :
  CallsIn F n Zb 262 #[.pointer (some ⟨b,0,none⟩),.func fn #[] cs] w fun e w'=>e= .returned (.func (.func 295) #[] #[.pointer (some ⟨w.heap.size,0,none⟩),.pointer (some ⟨w.heap.size+1,0,none⟩)])∧
   w'=(w.alloc (.cells #[.pointer (some ⟨b,0,none⟩)] 100)).alloc (.cells #[.func fn #[] cs] 147):=by
 have Ix: ∀(fn:Fn) (first cap:Array Zl) (w:Zc),(Jm fn first cap).run Zb w= .ok (.func fn first cap) w:=fun _ _ _ _=>rfl
 refine callsIn_of_wp Tryz.func262 rfl hf ?_ O4;simp only [Tryz.ntmps262,Jh,Yp,Jr,J7,Vn,QP,QQ,JK,Ja,QY,Yh]
 gi_wp2
 go_ret;exact Hd
section
variable {w W w1:Zc} {b:Nat} {go:Option Nat} {sz:Nat} {L:List Int} {wv:Zl} {lim:Int} {p:Nat × Int} {k x:Nat}
def W0 (w1:Zc)(b z:Nat) :Zc:=
 (((w1.alloc (.cells #[Na (z+1)] 324)).alloc (.cells #[.slice none 0 0] 47)).alloc (.cells #[.pointer (some ⟨b,0,none⟩)] 100)).alloc (.cells #[lv z] 147)
theorem fW (hr:RingAt 189 3 1 w b go sz L.length (L.map (ZR .i64)))(hb:PV w1 (w.heap.size+1) lim (0,0))(bl:Below (w.heap.size+1) (w.alloc (.cells #[wv] 143)) w1)(hz:w1.heap.size=w.heap.size+1+3) :
  Sq w b go sz L wv lim (0,0) 0 0 (W0 w1 b w.heap.size)∧(W0 w1 b w.heap.size).heap.size=w.heap.size+8:=by
 have e1:Below w.heap.size w w1:=((Below.refl _ w).alloc (Zg _) _).trans (bl.mono Zm);have n1:=Zv w1 324 #[Na (w.heap.size+1)];have n2:=Zv (w1.alloc (.cells #[Na (w.heap.size+1)] 324)) 47 #[.slice none 0 0];have n3:=Zv ((w1.alloc (.cells #[Na (w.heap.size+1)] 324)).alloc (.cells #[.slice none 0 0] 47)) 100 #[.pointer (some ⟨b,0,none⟩)];have n4:=Zv (((w1.alloc (.cells #[Na (w.heap.size+1)] 324)).alloc (.cells #[.slice none 0 0] 47)).alloc (.cells #[.pointer (some ⟨b,0,none⟩)] 100)) 147 #[lv w.heap.size];simp only [Q5,hz,JH,J7] at n1 n2 n3 n4;have kept:Kept (Foot b go) w (W0 w1 b w.heap.size):=((((YP (S:=Foot b go) e1).alloc _).alloc _).alloc _).alloc _;have wb:Blk w1 w.heap.size 143 #[wv]:=(Zv w 143 #[wv]).below bl Zm;refine ⟨⟨?_,⟨(((hb.1.alloc _).alloc _).alloc _).alloc _,(((hb.2.1.alloc _).alloc _).alloc _).alloc _,(((hb.2.2.alloc _).alloc _).alloc _).alloc _⟩,(((wb.alloc _).alloc _).alloc _).alloc _,((n1.alloc _).alloc _).alloc _,n3.alloc _,n4,⟨.slice none 0 0,(n2.alloc _).alloc _,World.ownsRow_nil _ _ _ _,trivial⟩,kept⟩,by simp [W0,hz]⟩;exact hr.kept (S:=fun _=>False) (((((YP (S:=fun _=>False) e1).alloc _).alloc _).alloc _).alloc _) (fun _ _ h=>h)
theorem Sq.collect {v v':Zl}{tmp:Obj}(h:Sq w b go sz L wv lim p (x+1) x W)(XP: ∀i,Foot b go i→i < w.heap.size)(hv:Boxed W (w.heap.size+5) 47 v)(Gd:W.ownsRow (w.heap.size+8) 3 1 v x ((L.take x).map (ZR .i64)))(hx:x < L.length)(Er:w.heap.size+8≤W.heap.size)
  (Hz:w1.ownsRow (w.heap.size+8) 3 1 v' (x+1) ((L.take x).map (ZR .i64)++[.int .i64 (L.getD x 0)])) (FY:(W.alloc tmp).grownBy w1 v.ownBlock) :
  Boxed w1 (w.heap.size+5) 47 v∧Sq w b go sz L wv lim p (x+1) (x+1) (w1.setCell ⟨w.heap.size+5,0,none⟩ v')∧KeepsOthers W (w1.setCell ⟨w.heap.size+5,0,none⟩ v'):=by
 obtain ⟨a1,a2,a3,a4,-⟩:=Boxed.appended (n₀:=w.heap.size+5) (B:=w.heap.size+5) hv YU (FD Gd Zm) Zm (Zg _) (FD Hz Zm) FY;have K:Kept (fun i=>i=w.heap.size+5∨v.ownBlock=some i) W (w1.setCell ⟨w.heap.size+5,0,none⟩ v'):=
  (((Kept.refl _ W).alloc tmp).trans (Kept.of_grown (S:=fun i=>v.ownBlock=some i) FY (fun i e=>e.symm)) (fun _ _ e=> .inr e)).setCell (.inl (.inl rfl)) v'
 have nk: ∀i,i < w.heap.size+8→i≠w.heap.size+5→ ¬(i=w.heap.size+5∨v.ownBlock=some i):=fun i h1 h2 e=>e.elim h2 (fun e=>by have:=(Gd.lt i e).1; omega)
 refine ⟨a1,⟨h.ring.kept K (fun i hi=>nk i (by have:=XP i hi; omega) (by have:=XP i hi; omega)),h.bnd.kept K (fun i h1 h2=>nk i Zm Zm),h.fw.kept K (nk _ Zm Zm),h.fb.kept K (nk _ Zm Zm),h.fq.kept K (nk _ Zm Zm),h.fn.kept K (nk _ Zm Zm),⟨v',a2,?_,trivial⟩,h.kept.trans K (fun i hi e=>(nk i Zm Zm e).elim)⟩,a4⟩;have KF: ∀i,v'.ownBlock=some i→i≠w.heap.size+5:=fun i e=>by have:=(Hz.lt i e).1; omega
 have ho:=FE (W':=w1.setCell ⟨w.heap.size+5,0,none⟩ v') Hz (fun i e=>Below.heap_setCell _ _ _ _ (KF i e));rw [List.take_succ_eq_append_getElem hx,List.map_append];rw [List.getD_eq_getElem?_getD,List.getElem?_eq_getElem hx] at ho;exact ho
end
section
variable {w:Zc} {b:Nat} {go:Option Nat} {sz:Nat} {L Lw:List Int} {a:Option Addr} {cap:Nat} {lim:Int}
theorem xf (F:Fence)(n:Nat)(sP:F=Fence.wide)(hn:6≤n)(hr:RingAt 189 3 1 w b go sz L.length (L.map (ZR .i64)))(hu:NY w (Foot b go) a Lw)(hL:Lw.length≤9223372036854775807)(hA:LZ Lw)(hl:BU lim) :
  CallsIn F n Zb 215 #[.pointer (some ⟨b,0,none⟩),.int .u64 lim,.slice a Lw.length cap] w (OT w b go sz L (FW lim (L.map (KM Lw)))):=by
 have h1:1≤n:=by omega
 have O4:F.round=none:=by rw [sP]; rfl
 have hf: ∀k,F.fn k:=fun k=>by rw [sP]; trivial
 have HC:Hid (∀(f n:Nat) (args:Array Zl) (w:Zc) (R:Ending→Zc→Prop),Calls Zb f args w R→CallsIn F n Zb f args w R):=Za (fun f n args w R h=>by rw [sP]; exact callsIn_wide.2 h);have HFW:=Za sP;have HR:=Za hr;have Ix: ∀(fn:Fn) (first cap:Array Zl) (w:Zc),(Jm fn first cap).run Zb w= .ok (.func fn first cap) w:=fun _ _ _ _=>rfl
 clear sP hr;refine callsIn_of_wp_marks Tryz.func215 rfl (hf _) ?_ O4;simp only [Tryz.ntmps215,Jh,Yp,Jr,J7,Vn,QP,QQ,JK,Ja,QY,Yh]
 gi_wp2_with (first | (gi_at_call 259; refine (HC.out _ _ _ _ _ (RM lim _)).mono ?_; rintro e w1 ⟨rfl,ER,bl1,BG⟩; rw [Q5] at ER bl1 BG; unfold Na; have HZ1:=Za (Zh ER (Zh bl1 BG)); clear ER bl1 BG) | (gi_at_call 262; refine (jS b _ _ _ F (n - 1) (hf _) O4).mono ?_; rintro e w2 ⟨rfl,rfl⟩))
 obtain ⟨o6,BM⟩:=fW (L:=L) HR.out HZ1.out.1 HZ1.out.2.1 HZ1.out.2.2;have hzz:=HZ1.out.2.2;have XP:=HR.out.lt;have hLL:=HR.out.size_le;rw [hzz];simp only [JH,J7];show Code.wpIn _ _ _ _ _ _ (W0 w1 b w.heap.size);generalize W0 w1 b w.heap.size=W at*;clear HZ1 hzz Ix;obtain ⟨X,hX⟩ : ∃X,L.map (KM Lw)=X:=⟨_,rfl⟩;have hXl:X.length=L.length:=by rw [←hX]; exact List.length_map ..
 have O0:FW lim X≤L.length:=by rw [←hXl]; exact A6 X
 rw [hX];obtain ⟨i0,hi,hz0',BG,Mn⟩:=LK;have HI:=Za (fun l Bk uY=>jR (L:=L) (sz:=sz) (cap:=cap) F (n - 1) HFW.out Zm l Bk W.heap.size Zm uY XP hu hL hA hl Zm);rw [hX] at HI;refine Ly O4 h1 (gf:=295) (lb:= #[.pointer (some ⟨w.heap.size+6,0,none⟩),.pointer (some ⟨w.heap.size+7,0,none⟩)]) rfl (hf _) (enters_of Tryz.func295 Ye rfl)
  (encs:=fun x:Nat=> #[.int .i64 (L.getD x 0)]) (fun _=>rfl)
  (fun x W'=>x < FW lim X∧Sq w b go sz L (.slice a Lw.length cap) lim (cv X (x+1)) (x+1) x W')
  (fun x W'=>x < FW lim X∧Sq w b go sz L (.slice a Lw.length cap) lim (cv X (x+1)) (x+1) (x+1) W')
  (fun W'=> ∃q,Sq w b go sz L (.slice a Lw.length cap) lim q (FW lim X) (FW lim X) W')
  (fun s A B' row h hg hr=>⟨h.1,Sq.own Zm (fun x=>cv X (x+1)) (fun x=>x+1) (fun x=>x) s A B' row h.2 hg hr⟩)
  (fun s A B' row h hg hr=>⟨h.1,Sq.own Zm (fun x=>cv X (x+1)) (fun x=>x+1) (fun x=>x+1) s A B' row h.2 hg hr⟩)
  (fun s A B' row h hg hr=>h.imp fun q h=>Sq.own Zm (fun _=>q) (fun _=>FW lim X) (fun _=>FW lim X) 0 A B' row h hg hr)
  (fun x=> { tmps:= #[.pointer (some ⟨b,0,none⟩),.int .u64 lim,.slice a Lw.length cap,Vm,Vm,.pointer (some ⟨w.heap.size,0,none⟩),.slice none 0 0,.pointer (some ⟨w.heap.size+4,0,none⟩),lv w.heap.size,.pointer (some ⟨w.heap.size+5,0,none⟩),.int .i64 (L.getD x 0),.int .u64 lim,Na (w.heap.size+1),lv w.heap.size,.pointer (some ⟨b,0,none⟩),lv w.heap.size,.func (.func 295) #[] #[.pointer (some ⟨w.heap.size+6,0,none⟩),.pointer (some ⟨w.heap.size+7,0,none⟩)],.int .i64 (L.getD x 0),Vm,Vm,Vm,Vm,Vm],defers:= []}) ?assign ?body ?it ?done
 case assign=>
  intro l x W K hK
  gi_wp2
  exact hK
 case body=>
  rintro l x W1 ⟨hx,hs⟩;obtain ⟨v,hv,Gd,-⟩:=hs.out;have hc:=hv.cell;have hxl:x < L.length:=by omega
  have Er:w.heap.size+8≤W1.heap.size:=hs.fn.lt;obtain ⟨y,hy⟩ : ∃y,L.getD x 0=y:=⟨_,rfl⟩;have HSQ:=Za (fun (v':Zl) (w1:Zc) (tmp:Obj)=>Sq.collect (w1:=w1) (v':=v') (tmp:=tmp) hs XP hv Gd hxl Er);rw [hy] at HSQ ⊢;have HROW:=Za Gd;have HXX:=Za hx;clear hs Gd hy hx HI o6 XP
  gi_wp2_with (gi_at_builtin; refine wpListIn_append_own _ rfl _ _ 47 rfl (w.heap.size+8) 3 i0 (.int .i64 0) 1 8 Tryz.underlying47 hi hz0' BG Mn rfl YU _ _ _ rfl (HROW.out.alloc _) ⟨W1.heap.size,0,none⟩ 1 1 [.int .i64 y] rfl rfl (og _ _ _) (by simp [Value.oneCell']) UH Zm zB13_2 ?_; intro v' w1 hown' FY _; obtain ⟨g',cap',rfl⟩:=ownsRow_succ hown'; obtain ⟨hv1,aO,P7⟩:=HSQ.out _ w1 _ hown' FY; have Om:=hv1.cell; have hf1:=hv1.frozen; have Iu:=Za (Zh aO P7); clear hown' FY aO P7)
  exact ⟨Iu.out.2.from _,HXX.out,Iu.out.1⟩
 case it=>
  intro l Bk uY hY W1 hb hbl2;exact HI.out l Bk uY hY W1 hb (o6.turn (Es hbl2 none) (fun r e=>by cases e))
 case done=>
  rintro D W2 hD ⟨q,hs⟩ hK;obtain ⟨v,hv,Gd,-⟩:=hs.out;have hc:=hv.cell;have Ww:=Za (hs.turn (grownBy_putObj' W2 D (.deferred none)) (fun r e=>by cases e; exact ⟨by omega,_,hK,rfl⟩));have HR2:=Za (ownsRow_putObj Gd (.deferred none) hK rfl);have HHX:=Za hX;clear hs Gd hv HI hX O0 hXl
  gi_wp2
  refine ⟨by simp,.inl ⟨_,_,rfl,run_takeDeferred hK,?_⟩⟩;rw [HHX.out];exact ⟨_,results_tmp rfl _ _ _,v,rfl,FD HR2.out Zm,Ww.out.ring,Ww.out.kept⟩
theorem cB (hr:RingAt 189 3 1 w b go sz L.length (L.map (ZR .i64)))(hu:NY w (Foot b go) a Lw)(hL:Lw.length≤9223372036854775807)(hA:LZ Lw)(hl:BU lim) :
  Calls Zb 215 #[.pointer (some ⟨b,0,none⟩),.int .u64 lim,.slice a Lw.length cap] w (OT w b go sz L (FW lim (L.map (KM Lw)))):=
 (callsIn_wide (n:=6)).1 (xf Fence.wide 6 rfl (Zg _) hr hu hL hA hl)
end
end
end Go.Proofs.YtianiiijaopdpaaGreat
