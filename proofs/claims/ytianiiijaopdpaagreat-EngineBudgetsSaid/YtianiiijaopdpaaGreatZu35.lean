/- Part 35 of 58: L13Proc L13Step L13Weight L14Bnd L14Now L21Rc L21Equal. -/
import Derived.Test.YtianiiijaopdpaaGreatZu00
import Derived.Test.YtianiiijaopdpaaGreatZu21
import Derived.Test.YtianiiijaopdpaaGreatZu22
import Derived.Test.YtianiiijaopdpaaGreatZu34
namespace Go.Proofs.YtianiiijaopdpaaGreat
set_option linter.unusedVariables false
set_option linter.unusedSimpArgs false
set_option maxRecDepth 100000
set_option maxHeartbeats 8000000
open _root_.And renaming intro → Zl
open _root_.Go.RowKit renaming Below → Zt
open _root_.Go.RowKit.Below renaming refl → Zr
open _root_.Go.Proofs.YtianiiijaopdpaaGreat.Zy renaming new → Zw
open _root_.Go renaming Calls → Zi, TypeId → ZT, Value → Zo, World → Zc
open _root_.Go.Exit renaming noGoto_ret → Gp
open _root_.Go.Instr renaming makeFunc → Jj
open _root_.Go.Proofs.YtianiiijaopdpaaGreat.Kept renaming of_below → Y4, of_grown → XD, refl → ZM
open _root_.Go.Lib renaming hid → Za
open _root_.List renaming append_nil → XL, ext_getElem → Kq, replicate → ZF, take_add_one → YN
open _root_.Nat renaming le_refl → Zg, le_trans → Yk
open _root_.Go.Proofs.Tryz renaming prog → Zb
open _root_.Go.World renaming size_alloc → Q9
theorem Rr {G:Prop}(h:G:=by rw [HN.out]; exact XJ) :G:=h
theorem IP {G:Prop}(h:G:=by rw [←show i=m from e]; exact hi) :G:=h
theorem zT9 {G:Prop} (h:G:=by
  have nE:=Lib.hid HA;have B:=Lib.hid hb;have X:=Lib.hid hx;have S:=Lib.hid hs;have c0:(w.alloc (.cells #[.int .u64 s,.int .u64 x] 22)).cell? ⟨h,0,none⟩=some (.int .u64 lim):=(hb.1.alloc _).cell 0;have c1:(w.alloc (.cells #[.int .u64 s,.int .u64 x] 22)).cell? ⟨h+1,0,none⟩=some (.int .i64 ((k:Int)+1)):=(hb.2.1.alloc _).cell 0;have c2:w.cell? ⟨h+2,0,none⟩=some (.int .u64 s):=hb.2.2.cell 0;have c2':(w.alloc (.cells #[.int .u64 s,.int .u64 x] 22)).cell? ⟨h+2,0,none⟩=some (.int .u64 s):=(hb.2.2.alloc _).cell 0;have f1:(w.alloc (.cells #[.int .u64 s,.int .u64 x] 22)).frozen? ⟨h+1,0,none⟩=false:=(hb.2.1.alloc _).frozen 0;have f2:(w.alloc (.cells #[.int .u64 s,.int .u64 x] 22)).frozen? ⟨h+2,0,none⟩=false:=(hb.2.2.alloc _).frozen 0;clear HA hb hs hx;go_enter Tryz.func294,Tryz.ntmps294;go_wp2_with fail;refine nE.out.mono ?_;rintro e w' ⟨rfl,rfl⟩;clear nE;go_wp2;go_ret;rw [HE.out];refine ⟨by simp,⟨?_,?_,?_⟩,?_⟩
  ·exact ((B.out.1.alloc _).far (show h≠h+1 by omega) _).far (show h≠h+2 by omega) _
  ·exact ((B.out.2.1.alloc _).set_ 0 _).far (show h+1≠h+2 by omega) _
  ·exact ((B.out.2.2.alloc _).far (show h+2≠h+1 by omega) _).set_ 0 _
  ·exact (((Kept.refl _ w).alloc _).setCell (.inl (.inl rfl)) _).setCell (.inl (.inr rfl)) _) :G:=h
section
open Go Go.RowKit
def PU (ep:Int)(l:List (Int × Int)) :List Zo:=l.flatMap fun p=> [.int .i64 p.1,.int .i64 p.2,.int .i64 ep]
theorem mL (ep:Int)(l:List (Int × Int))(p:Int × Int) :PU ep (l++[p])=PU ep l++[.int .i64 p.1,.int .i64 p.2,.int .i64 ep]:=by simp [PU]
theorem u5: ∃i,Tryz.prog.info? 71=some i∧i.zero=some (.agg #[.int .i64 0,.int .i64 0,.int .i64 0])∧i.size=3∧i.bytes=24:=by
 have h:(Tryz.prog.info? 71).map (fun i=>(i.zero,i.size,i.bytes))=some (some (.agg #[.int .i64 0,.int .i64 0,.int .i64 0]),3,24):=by kernel_rfl
 cases hi:Tryz.prog.info? 71 with
 | none=>rw [hi] at h; cases h
 | some i=>
  rw [hi] at h;simp at h;exact ⟨i,rfl,h.1,h.2.1,h.2.2⟩
theorem WA {w:Zc}{base n size:Nat}{e:ZT}{v:Zo}{xs:List Zo}(h:w.ownsRow base e size v n xs) : ∃a cp,v= .slice a n cp:=by
 exact sL
def BB (w:Zc)(b m nn:Nat)(S:Nat→Prop)(Sp B0 D ep:Int)(wr:Zc)(v:Zo)(out:List (Int × Int))(F V:List Int)(B:Int) :Prop:=
 ∃S1 T1,Ln wr b S1 nn F V∧(∀i,S1 i→S i∨w.heap.size≤i)∧ ¬S1 m∧KR wr m B (Sp+(B0 - B)) T1 D∧Jm B (Sp+(B0 - B)) T1 D∧
  wr.ownsRow w.heap.size 71 3 v out.length (PU ep out)∧(∀g,v.ownBlock=some g→ ¬S1 g)∧Kept (fun i=>i=m∨S i) w wr∧m < w.heap.size
section
variable {w wr w':Zc} {b m nn:Nat} {S:Nat→Prop} {Sp B0 D ep B x:Int} {v:Zo} {out:List (Int × Int)} {F V:List Int}
theorem BB.drewN (h:BB w b m nn S Sp B0 D ep wr v out F V B)(q:Nat) :BB w b m nn S Sp B0 D ep (wr.drewN q) v out F V B:=by
 obtain ⟨S1,T1,h1,h2,h3,h4,h5,h6,h7,h8,h9⟩:=h;exact ⟨S1,T1,h1,h2,h3,h4,h5,h6,h7,h8.drewN q,h9⟩
theorem BB.head (h:BB w b m nn S Sp B0 D ep wr v out F V B) :Zi Zb 291 #[.pointer (some ⟨b,0,none⟩)] wr fun e w'=>e= .returned (.tuple #[.int .i64 (OA F V),.int .i64 (lO F V),.bool (IY F V)])∧ ∃q,w'=wr.drewN q:=by
 obtain ⟨S1,T1,h1,_⟩:=h;exact SC h1
theorem BB.refuse (h:BB w b m nn S Sp B0 D ep wr v out F V B)(hx: ¬x≤B) :Zi Zb 290 #[.pointer (some ⟨m,0,none⟩),.int .u64 x] wr fun e w'=>e= .returned (.bool false)∧ ∃q,w'=wr.drewN q:=by
 obtain ⟨S1,T1,h1,h2,h3,h4,h5,_⟩:=h;exact yj m _ _ _ _ x wr h4 h5 Zp
theorem BB.take (h:BB w b m nn S Sp B0 D ep wr v out F V B)(x0:0≤x)(hx:x≤B) :Zi Zb 290 #[.pointer (some ⟨m,0,none⟩),.int .u64 x] wr fun e w'=>e= .returned (.bool true)∧Hid (BB w b m nn S Sp B0 D ep w' v out F V (B - x)):=by
 obtain ⟨S1,T1,h1,h2,h3,h4,h5,h6,h7,h8,h9⟩:=h;obtain ⟨T',hT,hN,hG,hb⟩:=yi h5 x0 hx;refine (sq m _ _ _ _ T' x wr h4 h5 hx hT hG hb).mono ?_;rintro e w' ⟨he,hm,hg⟩;have k:Kept (fun i=>i=m) wr w':=XD hg (fun i e=>by injection e);have es:Sp+(B0 - B)+x=Sp+(B0 -(B - x)):=by omega
 rw [es] at hm hN;exact ⟨he,Za ⟨S1,T',h1.kept k (fun i hi e=>h3 IP),h2,h3,hm,hN,EW h6 k (fun g hg e=>by have:=(h6.lt g hg).1; have:g=m:=e; omega),h7,h8.trans k (fun i _ e=> .inl e),h9⟩⟩
theorem BB.pop (h:BB w b m nn S Sp B0 D ep wr v out F V B) :Zi Zb 311 #[.pointer (some ⟨b,0,none⟩)] wr fun e w'=>e= .returned (.tuple #[.int .i64 (OA F V),.int .i64 (lO F V),.bool (IY F V)])∧Hid (BB w b m nn S Sp B0 D ep w' v out (FB F) (FC F V) B):=by
 obtain ⟨S1,T1,h1,h2,h3,h4,h5,h6,h7,h8,h9⟩:=h;refine (xn h1).mono ?_;rintro e w' ⟨he,S2,hl,hg⟩;have new: ∀i,i < wr.heap.size→ ¬S1 i→ ¬S2 i:=fun i hi hn hs=>(hg.2 i hs).elim hn (fun h=>by omega)
 refine ⟨he,Za ⟨S2,T1,hl,fun i hi=>?_,new m (Nat.lt_of_lt_of_le h9 h8.size) h3,Zy.kept (w:=wr) h4 hg.1 h3,h5,EW h6 hg.1 h7,fun g hg'=>new g (h6.lt g hg').2 (h7 g hg'),h8.trans hg.1 (fun i hi h=>(h2 i h).elim .inr (fun h=>by omega)),h9⟩⟩
 rcases hg.2 i hi with h | h
 ·exact h2 i h
 ·exact .inr (Yk h8.size h)
theorem BB.alloc (h:BB w b m nn S Sp B0 D ep wr v out F V B)(o:Obj) :BB w b m nn S Sp B0 D ep (wr.alloc o) v out F V B:=by
 obtain ⟨S1,T1,h1,h2,h3,h4,h5,h6,h7,h8,h9⟩:=h;have k:Kept (fun _=>False) wr (wr.alloc o):=(ZM _ _).alloc o;exact ⟨S1,T1,h1.kept k (fun _ _ h=>h),h2,h3,Zy.alloc h4 o,h5,h6.alloc _,h7,h8.alloc o,h9⟩
theorem BB.app {v':Zo}{p:Int × Int}(h:BB w b m nn S Sp B0 D ep wr v out F V B)(ho:w'.ownsRow w.heap.size 71 3 v' (out.length+1) (PU ep out++[.int .i64 p.1,.int .i64 p.2,.int .i64 ep]))(hg:wr.grownBy w' v.ownBlock)
  (ha:v'.ownBlock=v.ownBlock∨v'.ownBlock=some wr.heap.size) :BB w b m nn S Sp B0 D ep w' v' (out++[p]) F V B:=by
 obtain ⟨S1,T1,h1,h2,h3,h4,h5,h6,h7,h8,h9⟩:=h;have k:Kept (fun i=>some i=v.ownBlock) wr w':=XD hg (fun i e=>e);refine ⟨S1,T1,h1.kept k (fun i hi e=>h7 i (Eq.symm e) hi),h2,h3,Zy.kept (w:=wr) h4 k (fun e=>by have:=(h6.lt m (Eq.symm e)).1; omega),h5,by rw [mL]; simpa using ho,fun g hg'=>?_,h8.trans k (fun i hi e=>by have:=(h6.lt i (Eq.symm e)).1; omega),h9⟩
 rcases ha with ha | ha
 ·exact h7 g (ha▸hg')
 ·rw [ha] at hg';injection hg' with hg';exact fun hs=>by have:=h1.lt g hs; omega
end
def ZeF (w:Zc)(g:Nat)(l:List Zo) :Prop:=(0 < 1→ ∃ad,some (⟨g,0,none⟩ :Addr)=some ad∧ ∀j u,l[j]?=some u→w.cell? (ad.add j)=some u)∧ ∀u ∈ l,u.oneCell'=true
theorem se (w:Zc)(t:ZT)(x y z:Int) :ZeF (w.alloc (.cells #[.int .i64 x,.int .i64 y,.int .i64 z] t)) w.heap.size [.int .i64 x,.int .i64 y,.int .i64 z]:=by
 refine ⟨fun _=>⟨_,rfl,fun j u hj=>?_⟩,fun u hu=>?_⟩
 ·rw [add_plain,Nat.zero_add,(Zw w t #[.int .i64 x,.int .i64 y,.int .i64 z]).cell];simpa using hj
 ·simp at hu;exact ko
def Nb (w:Zc)(b m nn:Nat)(S:Nat→Prop)(Sp B0 D ep:Int)(om:Int→Int)(F V:List Int)(e:Ending)(w':Zc) :Prop:=
 ∃a c,e= .returned (.slice a (asg om F V B0).1.length c)∧Hid (BB w b m nn S Sp B0 D ep w' (.slice a (asg om F V B0).1.length c) (asg om F V B0).1 (asg om F V B0).2.1 (asg om F V B0).2.2.1 (asg om F V B0).2.2.2)
section
variable {w:Zc} {b m nn:Nat} {S:Nat→Prop} {B Sp T D ep:Int} {F V L:List Int} {wa:Option Addr} {cap:Nat}
theorem cE (hl:Ln w b S nn F V)(hm:KR w m B Sp T D)(hF:Jm B Sp T D)(hn: ¬S m)(hu:N9 w (fun i=>i=m∨S i) wa L)(hL:L.length≤9223372036854775807)(hA:LX L) :
  Zi Zb 289 #[.int .i64 ep,.pointer (some ⟨b,0,none⟩),.slice wa L.length cap,.func (.func 290) #[.pointer (some ⟨m,0,none⟩)] #[]] w (Nb w b m nn S Sp B D ep (Kz L) F V):=by
 obtain ⟨j0,eZ,BM,BN,M5⟩:=u5;have Du:=hl.size;have HU:=Za hu;have HA:=Za hA;have HL:=Za hL;have qk:=Zy.lt hm;have H0:Hid (BB w b m nn S Sp B D ep w (.slice none 0 0) [] F V B):=Za ⟨S,T,hl,fun i hi=> .inl hi,hn,by rw [show Sp+(B - B)=Sp by omega]; exact hm,by rw [show Sp+(B - B)=Sp by omega]; exact hF,World.ownsRow_nil _ _ _ _,(fun g hg=>by cases hg),ZM _ _,qk⟩;have HN:Hid (F.length+V.length≤2097152):=Za Zp;clear hl hm hF hn hu hA Du qk hL;go_enter Tryz.func289,Tryz.ntmps289;go_wp2;go_loopg [9] (F.length+V.length) (fun g s9 wr=> ∃(F1 V1:List Int) (B1:Int) (out:List (Int × Int)) (k:Nat) (a:Option Addr) (c:Nat),F1.length+V1.length=g∧s9= .slice a k c∧Hid (k=out.length∧k+g≤2097152)∧
  Hid (BB w b m nn S Sp B D ep wr (.slice a k c) out F1 V1 B1)∧Hid (asg (Kz L) F V B=(out++(asg (Kz L) F1 V1 B1).1,(asg (Kz L) F1 V1 B1).2)))
 case atStart=>exact ⟨F,V,B,[],0,none,0,rfl,rfl,Za ⟨rfl,by have:=HN.out; omega⟩,H0,Za rfl⟩
 case round=>
  clear H0 HN;obtain ⟨F1,V1,B1,out,k,a,c,hg,rfl,HK,HP,HE⟩:=hrel;have HG:=Za hg;clear hg;go_wp2_with fail;refine HP.out.head.mono ?_;rintro e w1 ⟨rfl,q,rfl⟩;have zc:=Za (HP.out.drewN q);have HU1:Hid (N9 (wr.drewN q) (fun i=>i=m∨S i) wa L):=Za (by
   obtain ⟨_,_,_,_,_,_,_,_,_,k8,_⟩:=zc.out;exact HU.out.kept k8 (fun _ _ h=>h))
  clear HP;generalize wr.drewN q=w1 at*
  cases hb:IY F1 V1
  ·have HR:Hid (Nb w b m nn S Sp B D ep (Kz L) F V (.returned (.slice a k c)) w1):=Za (by
    have e1:=HE.out;rw [(ao hb).1,XL] at e1;refine ⟨a,c,by rw [e1]; simp only [HK.out.1],?_⟩;rw [e1];have:=zc.out;rw [HK.out.1] at this;exact Za this)
   clear zc HU1 HE HK;have HB:=Za hb;clear hb;go_wp2;try rw [Gp]
   go_ret;exact HR.out
  ·have HB:=Za hb;clear hb;obtain ⟨x,hx⟩ : ∃x,Kz L (OA F1 V1)=x:=⟨_,rfl⟩;have hi:=fun w h=>TJ (S:=fun i=>i=m∨S i) (a:=wa) cap (OA F1 V1) w h HL.out
   rw [hx] at hi;have HI:=Za hi;have HX:=Za hx;have bC:=NV HA.out (OA F1 V1);rw [hx] at bC;have HX0:=Za bC;clear hi hx bC
   by_cases hle:x≤B1
   ·have HT:=Za (zc.out.take HX0.out.1 hle);have Hd:Hid (asg (Kz L) F V B=((out++[(OA F1 V1,lO F1 V1)])++(asg (Kz L) (FB F1) (FC F1 V1) (B1 - x)).1,(asg (Kz L) (FB F1) (FC F1 V1) (B1 - x)).2)):=Za (by
     have e1:=HE.out;rw [ak HB.out (by rw [HX.out]; exact hle),HX.out] at e1;rw [e1]; simp)
    have tC:Hid ((FB F1).length+(FC F1 V1).length+1=gk):=Za (by have:=Ie HB.out; have:=HG.out; omega);clear hle HE HX HX0 zc;go_wp2_with fail;refine (HI.out _ HU1.out).mono ?_;rintro e w' ⟨rfl,rfl⟩;go_wp2_with fail;refine HT.out.mono ?_;rintro e w2 ⟨rfl,zd⟩;clear HT HI HU1;go_wp2_with fail;refine zd.out.pop.mono ?_;rintro e w3 ⟨rfl,HP3⟩;clear zd;generalize FB F1=F2 at*;generalize FC F1 V1=V2 at*;generalize OA F1 V1=ix at*;generalize lO F1 V1=ic at*;generalize IY F1 V1=ib at*;have HP4:Hid (BB w b m nn S Sp B D ep (w3.alloc (.cells #[.int .i64 ix,.int .i64 ic,.int .i64 ep] 71)) (.slice a k c) out F2 V2 (B1 - x)):=Za (HP3.out.alloc _);have PK:Hid ((w3.alloc (.cells #[.int .i64 ix,.int .i64 ic,.int .i64 ep] 71)).ownsRow w.heap.size 71 3 (.slice a k c) k (PU ep out)∧w.heap.size≤w3.heap.size):=Za (by
     obtain ⟨_,_,_,_,_,_,_,k6,_,k8,_⟩:=HP4.out;obtain ⟨_,_,_,_,_,_,_,_,_,k8',_⟩:=HP3.out;exact ⟨by rw [←HK.out.1] at k6; exact k6,k8'.size⟩)
    have hkb:k≤2097152:=by have:=HK.out.2; omega
    clear HP3;have HN1:Hid (ZeF (w3.alloc (.cells #[.int .i64 ix,.int .i64 ic,.int .i64 ep] 71)) w3.heap.size [.int .i64 ix,.int .i64 ic,.int .i64 ep]):=Za (se w3 _ ix ic ep);go_wp2_with (at_builtin; refine QL _ rfl (.tmp 32) (.tmp 37) 39 rfl w.heap.size 71 j0 _ 3 24 Tryz.underlying39 eZ BM BN M5 rfl Xh (.slice a k c) k (PU ep out) rfl PK.out.1 (some ⟨w3.heap.size,0,none⟩) 1 1 [.int .i64 ix,.int .i64 ic,.int .i64 ep] rfl rfl HN1.out.1 HN1.out.2 N4 Zp (by have:=PK.out.2; simp; omega) ?_);intro v' w5 ho5 hg5 ha5;have HP5:Hid (BB w b m nn S Sp B D ep w5 v' (out++[(ix,ic)]) F2 V2 (B1 - x)):=Za (HP4.out.app (p:=(ix,ic)) (by rw [←HK.out.1]; exact ho5) hg5 (by simpa using ha5));obtain ⟨a5,c5,rfl⟩:=WA ho5;have HK5:Hid (k+1=(out++[(ix,ic)]).length∧k+1+(gk - 1)≤2097152):=Za ⟨by rw [List.length_append,HK.out.1]; rfl,by have:=HK.out.2; have:=tC.out; omega⟩;have HGG:Hid (F2.length+V2.length=gk - 1∧0 < gk):=Za (by have:=tC.out; omega);clear ho5 hg5 ha5 HP4 PK HK HG tC hkb HN1;go_wp2;go_roundg (gk - 1)
    case measure=>have:=HGG.out.2; omega
    case rel=>exact ⟨F2,V2,B1 - x,out++[(ix,ic)],k+1,a5,c5,HGG.out.1,rfl,HK5,HP5,Hd⟩
   ·have HT:=Za (zc.out.refuse hle);have HR:Hid (∀q,Nb w b m nn S Sp B D ep (Kz L) F V (.returned (.slice a k c)) (w1.drewN q)):=Za (fun q=>by
     have e1:=HE.out;rw [ar HB.out (by rw [HX.out]; exact hle),XL] at e1;refine ⟨a,c,by rw [e1]; simp only [HK.out.1],?_⟩;rw [e1];have:=zc.out.drewN q;rw [HK.out.1] at this;exact Za this)
    clear zc HE HK HX;go_wp2_with fail;refine (HI.out _ HU1.out).mono ?_;rintro e w' ⟨rfl,rfl⟩;go_wp2_with fail;refine HT.out.mono ?_;rintro e w2 ⟨rfl,q2,rfl⟩;clear HT HI HU1;go_wp2;try rw [Gp]
    go_ret;exact HR.out _
end
end
section
open Go Go.RowKit
def gr (B x:Int) :Int:=B+(if 18446744073709551615 - B < x then 18446744073709551615 - B else x)
def Fa (om:Int→Int)(F V:List Int)(B x:Int) :List (Int × Int) × List Int × List Int × Int:=asg om F V (gr B x)
def EI (r:List (Int × Int) × List Int × List Int × Int) :Int:=if IY r.2.1 r.2.2.1=true then r.2.2.2 else 0
def PL (w:Zc)(b m nn:Nat)(S:Nat→Prop)(ep:Int)(wr:Zc)(v:Zo)(out:List (Int × Int))(F V:List Int)(B Sp:Int) :Prop:=
 ∃S1 T1 D1,Ln wr b S1 nn F V∧(∀i,S1 i→S i∨w.heap.size≤i)∧ ¬S1 m∧KR wr m B Sp T1 D1∧Jm B Sp T1 D1∧
  wr.ownsRow w.heap.size 71 3 v out.length (PU ep out)∧(∀g,v.ownBlock=some g→ ¬S1 g)∧Kept (fun i=>i=m∨S i) w wr∧m < w.heap.size
theorem C6 {w:Zc}{base zk n size:Nat}{e:ZT}{v:Zo}{xs:List Zo}(h:w.ownsRow base e size v n xs)(hb:zk≤base) :w.ownsRow zk e size v n xs:=by
 obtain ⟨h1,h2⟩:=h;refine ⟨h1,?_⟩
 rcases h2 with h2 | ⟨g,cap,cur,rfl,h3,h4⟩
 ·exact .inl h2
 ·exact .inr ⟨g,cap,cur,rfl,Yk hb h3,h4⟩
section
variable {w w1 wr w':Zc} {b m nn:Nat} {S:Nat→Prop} {Sp B0 D ep B x:Int} {v:Zo} {out:List (Int × Int)} {F V:List Int}
theorem BB.to (h:BB w1 b m nn S Sp B0 D ep wr v out F V B)(k:Kept (fun i=>i=m∨S i) w w1)(hm:m < w.heap.size) :PL w b m nn S ep wr v out F V B (Sp+(B0 - B)):=by
 obtain ⟨S1,T1,h1,h2,h3,h4,h5,h6,h7,h8,h9⟩:=h;exact ⟨S1,T1,D,h1,fun i hi=>(h2 i hi).imp id (fun h=>Yk k.size h),h3,h4,h5,C6 h6 k.size,h7,k.trans h8 (fun _ _ h=>h),hm⟩
theorem PL.drewN (h:PL w b m nn S ep wr v out F V B Sp)(q:Nat) :PL w b m nn S ep (wr.drewN q) v out F V B Sp:=by
 obtain ⟨S1,T1,D1,h1,h2,h3,h4,h5,h6,h7,h8,h9⟩:=h;exact ⟨S1,T1,D1,h1,h2,h3,h4,h5,h6,h7,h8.drewN q,h9⟩
theorem PL.head (h:PL w b m nn S ep wr v out F V B Sp) :Zi Zb 291 #[.pointer (some ⟨b,0,none⟩)] wr fun e w'=>e= .returned (.tuple #[.int .i64 (OA F V),.int .i64 (lO F V),.bool (IY F V)])∧ ∃q,w'=wr.drewN q:=by
 obtain ⟨S1,T1,D1,h1,_⟩:=h;exact SC h1
theorem PL.drop (h:PL w b m nn S ep wr v out F V B Sp) :Zi Zb 292 #[.pointer (some ⟨m,0,none⟩)] wr fun e w'=>e= .returned (.int .u64 B)∧Hid (PL w b m nn S ep w' v out F V 0 Sp):=by
 obtain ⟨S1,T1,D1,h1,h2,h3,h4,h5,h6,h7,h8,h9⟩:=h;obtain ⟨D',hD,hN,hG⟩:=vt h5;refine (o6 m _ _ _ _ D' wr h4 h5 hD hG).mono ?_;rintro e w' ⟨he,hm,hg⟩;have k:Kept (fun i=>i=m) wr w':=XD hg (fun i e=>by injection e);exact ⟨he,Za ⟨S1,T1,D',h1.kept k (fun i hi e=>h3 IP),h2,h3,hm,hN,EW h6 k (fun g hg e=>by have:=(h6.lt g hg).1; have:g=m:=e; omega),h7,h8.trans k (fun i _ e=> .inl e),h9⟩⟩
end
def RH (w:Zc)(b m nn:Nat)(S:Nat→Prop)(om:Int→Int)(F V:List Int)(B x ep:Int)(e:Ending)(w':Zc) :Prop:=
 ∃a c,e= .returned (.slice a (Fa om F V B x).1.length c)∧Hid (PL w b m nn S ep w' (.slice a (Fa om F V B x).1.length c) (Fa om F V B x).1 (Fa om F V B x).2.1 (Fa om F V B x).2.2.1 (EI (Fa om F V B x)) (gr B x -(Fa om F V B x).2.2.2))
section
variable {w:Zc} {b m nn:Nat} {S:Nat→Prop} {B Sp T D x ep:Int} {F V L:List Int} {wa:Option Addr} {cap:Nat}
theorem sf (hl:Ln w b S nn F V)(hm:KR w m B Sp T D)(hF:Jm B Sp T D)(hn: ¬S m)(hu:N9 w (fun i=>i=m∨S i) wa L)(hL:L.length≤9223372036854775807)(hA:LX L)(hx:0≤x)(bq:0≤ep)(vW:ep≤1099511627776) :
  Zi Zb 257 #[.int .i64 ep,.pointer (some ⟨b,0,none⟩),.pointer (some ⟨m,0,none⟩),.int .u64 x,.slice wa L.length cap] w (RH w b m nn S (Kz L) F V B x (ep+1)):=by
 obtain ⟨p,hp,hG,hN,hb,_⟩:=pN hF hx;have zF:B+p=gr B x:=by rw [gr,hp]
 have IZ: ∀(fn:Fn) (first cap:Array Zo) (w:Zc),(Jj fn first cap).run Zb w= .ok (.func fn first cap) w:=fun _ _ _ _=>rfl
 have HG:=Za ((lK m B Sp T D x p w hm hF hp hG hN hb).mono (R':=fun e w'=>e= .returned (.int .u64 (B+p))∧Hid (Kept (fun i=>i=m) w w'∧Zi Zb 289 #[.int .i64 (ep+1),.pointer (some ⟨b,0,none⟩),.slice wa L.length cap,.func (.func 290) #[.pointer (some ⟨m,0,none⟩)] #[]] w' (Nb w' b m nn S 0 (B+p) D (ep+1) (Kz L) F V)))
  (fun e w' ⟨he,hm',hg⟩=>⟨he,Za (by
   have k:Kept (fun i=>i=m) w w':=XD hg (fun i e=>by injection e);exact ⟨k,cE (hl.kept k (fun i hi e=>hn IP)) hm' hN hn (hu.kept k (fun i _ e=> .inl e)) hL hA⟩)⟩))
 have qk:=Zy.lt hm;rw [zF] at HG;have HM:=Za qk;clear hl hm hF hn hu hA hL qk hp hG hN hb zF hx;go_enter Tryz.func257,Tryz.ntmps257;go_wp2_with fail;refine HG.out.mono ?_;rintro e w1 ⟨rfl,HP⟩;clear HG;go_wp2_with fail;refine HP.out.2.mono ?_;rintro e w2 ⟨a,c,he,H2⟩;change e= .returned (.slice a (Fa (Kz L) F V B x).1.length c) at he;subst he;have H3:Hid (PL w b m nn S (ep+1) w2 (.slice a (Fa (Kz L) F V B x).1.length c) (Fa (Kz L) F V B x).1 (Fa (Kz L) F V B x).2.1 (Fa (Kz L) F V B x).2.2.1 (Fa (Kz L) F V B x).2.2.2 (gr B x -(Fa (Kz L) F V B x).2.2.2)):=Za (by
  have:=H2.out.to (w:=w) (HP.out.1.more (fun i _ e=> .inl e)) HM.out;rw [Int.zero_add] at this;exact this)
 clear H2 HP IZ;have HR:Hid (∀w',PL w b m nn S (ep+1) w' (.slice a (Fa (Kz L) F V B x).1.length c) (Fa (Kz L) F V B x).1 (Fa (Kz L) F V B x).2.1 (Fa (Kz L) F V B x).2.2.1 (EI (Fa (Kz L) F V B x)) (gr B x -(Fa (Kz L) F V B x).2.2.2)→RH w b m nn S (Kz L) F V B x (ep+1) (.returned (.slice a (Fa (Kz L) F V B x).1.length c)) w'):=Za (fun w' h=>⟨a,c,rfl,Za h⟩);have Mf:EI (Fa (Kz L) F V B x)=if IY (Fa (Kz L) F V B x).2.1 (Fa (Kz L) F V B x).2.2.1=true then(Fa (Kz L) F V B x).2.2.2 else 0:=rfl
 generalize EI (Fa (Kz L) F V B x)=bl at*;generalize RH w b m nn S (Kz L) F V B x (ep+1)=Q at*;generalize gr B x -(Fa (Kz L) F V B x).2.2.2=sp at*;generalize (Fa (Kz L) F V B x).1.length=nl at*;generalize Fa (Kz L) F V B x=r at*;obtain ⟨out,F2,V2,B2⟩:=r
 dsimp only at*
 have HB:=Za Mf;clear Mf;go_wp2_with fail;refine H3.out.head.mono ?_;rintro e w3 ⟨rfl,q,rfl⟩;have H4:=Za (H3.out.drewN q);clear H3;generalize w2.drewN q=w3 at*
 cases hb:IY F2 V2
 ·have HD:=Za H4.out.drop;rw [hb] at HB;clear hb H4;go_wp2_with fail;refine HD.out.mono ?_;rintro e w4 ⟨rfl,H5⟩;have H6:=Za (HR.out w4 (by rw [HB.out]; exact H5.out));clear HR HD H5 HB;go_wp2;exact H6.out
 ·rw [hb] at HB;have H6:=Za (HR.out w3 (by rw [HB.out]; exact H4.out));clear HR HB hb H4;go_wp2;exact H6.out
end
end
section
open Go Go.RowKit
def wl (om:Int→Int)(I:List Int)(k:Nat) :List Int:=(List.range I.length).map fun i=>if i < k then om (I.getD i 0) else 0
section
variable {om:Int→Int} {I:List Int}
theorem sD (k:Nat) :(wl om I k).length=I.length:=by simp [wl]
theorem yx:wl om I 0=ZF I.length 0:=by
 refine Kq (by simp [wl]) fun i h1 h2=>?_
 simp [wl]
theorem Zdf:wl om I I.length=I.map om:=by
 refine Kq (by simp [wl]) fun i h1 h2=>?_
 simp [wl] at h1 ⊢;simp [h1]
theorem Zdg {k:Nat}(hk:k < I.length) :(wl om I k).set k (om (I.getD k 0))=wl om I (k+1):=by
 refine Kq (by simp [wl]) fun i h1 h2=>?_
 rw [List.getElem_set];simp only [wl,List.getElem_map,List.getElem_range]
 by_cases h:k=i
 ·subst h; simp
 ·rw [if_neg h]
  by_cases h3:i < k
  ·rw [if_pos h3,if_pos Zp]
  ·rw [if_neg h3,if_neg Zp]
theorem aj (h: ∀i,0≤om i∧om i≤18446744073709551615) : ∀j,0≤(I.map om).getD j 0∧(I.map om).getD j 0≤18446744073709551615:=fun j=>by
 rw [List.getD_eq_getElem?_getD,List.getElem?_map]
 cases I[j]? with
 | none=>exact ⟨Int.le_refl 0,show (0:Int)≤18446744073709551615 by decide⟩
 | some x=>exact h x
end
theorem XH {w:Zc}{base n size:Nat}{e:ZT}{v:Zo}{xs:List Zo}(h:w.ownsRow base e size v n xs) : ∃a cp,v= .slice a n cp:=by
 exact sL
def dR (w:Zc)(om:Int→Int)(I:List Int)(e:Ending)(w':Zc) :Prop:=
 e= .returned (.tuple #[.int .u64 (EG (I.map om) I.length),.bool (G9 (I.map om) I.length)])∧Zt w.heap.size w w'
section
variable {w:Zc} {S S2:Nat→Prop} {a ia:Option Addr} {L I:List Int} {cap ic:Nat}
theorem dw (hu:N9 w S a L)(hL:L.length≤9223372036854775807)(hA:LX L)(hi:JL w S2 ia I)(hn:I.length≤100000) :
  Zi Zb 237 #[.slice a L.length cap,.slice ia I.length ic] w (dR w (Kz L) I):=by
 obtain ⟨n,hn'⟩ : ∃n,I.length=n:=⟨_,rfl⟩;have Dt:=fun w=>EZ n Zp w
 have HB:Hid (Fh (w.alloc (.cells (VY (ZF n 0)) 22)) w.heap.size (wl (Kz L) I 0)):=Za (by rw [yx,hn']; exact Zw _ _ _);have HW:Hid (Zt w.heap.size w (w.alloc (.cells (VY (ZF n 0)) 22))):=Za ((Zr _ _).alloc (Zg _) _);have HU:=Za hu;have HL:=Za hL;have HA:=Za hA;have HI:=Za hi;have HN:=Za hn';rw [hn'] at hn ⊢;clear hu hL hA hi hn';go_enter Tryz.func237,Tryz.ntmps237;go_wp2;clear Dt;generalize hz:w.heap.size=z at*;have HZ:=Za hz;clear hz;go_loopw [14] (fun s14 wr=> ∃k:Nat,k≤n∧s14= .int .i64 k∧Hid (Fh wr z (wl (Kz L) I k))∧Hid (Zt z w wr)) (fun s14 _=>n -(intOf s14).toNat)
 case atStart=>exact ⟨0,by omega,rfl,HB,HW⟩
 case round=>
  obtain ⟨k,hk,rfl,tA,HWK⟩:=hrel;clear HB HW
  by_cases XJ:k < n
  ·obtain ⟨b,off,rfl,_,hb,hc⟩:=HI.out Rw;have Gl:wr.cell? ⟨b,off+k,none⟩=some (.int .i64 (I.getD k 0)):=(HWK.out.cell (p:=⟨b,off+k,none⟩) (by rw [←HZ.out]; exact hb)).trans (hc k Rr);have hf:=tA.out.frozen k;have hcz:=tA.out.cell (i:=k) (by rw [sD,HN.out]; exact XJ);have VW:Hid (Fh (wr.setCell ⟨z,k,none⟩ (.int .u64 (Kz L (I.getD k 0)))) z (wl (Kz L) I (k+1))):=Za (by
    have:=tA.out.set k (Kz L (I.getD k 0));rwa [Zdg Rr] at this)
   have HW2:Hid (Zt z w (wr.setCell ⟨z,k,none⟩ (.int .u64 (Kz L (I.getD k 0))))):=Za (HWK.out.setCell (Zg _) _);have HUW:Hid (Zi Zb 277 #[.slice a L.length cap,.int .i64 (I.getD k 0)] wr fun e w'=>e= .returned (.int .u64 (Kz L (I.getD k 0)))∧wr=w'):=Za (TJ cap _ wr (HU.out.below (by rw [HZ.out]; exact HWK.out)) HL.out);generalize I.getD k 0=x at*;generalize Kz L x=y at*;generalize (wl (Kz L) I k).getD k 0=u at*;clear hc hb tA HWK;go_wp2_with fail;refine HUW.out.mono ?_;rintro e w' ⟨rfl,rfl⟩;clear HUW;go_wp2;go_roundw
   case rel=>exact ⟨k+1,by omega,by go_num,VW,HW2⟩
   case measure=>exact Uz
  ·obtain rfl:k=n:=by omega
   clear XJ;have XJ: ¬k < k:=by omega
   have HAd:=Za (Fk z 0 k k (I.map (Kz L)) wr Zp (fun i hi=>by
    rw [Nat.zero_add];have:=tA.out.cell (i:=i) (by rw [sD,HN.out]; exact hi);rw [←Zdf,HN.out]; exact this) (aj (fun i=>NV HA.out i)))
   clear tA;go_wp2_with fail;refine HAd.out.mono ?_;rintro e w' ⟨rfl,rfl⟩;clear HAd;go_wp2;go_ret2;exact ⟨by rw [HN.out]; rfl,by rw [HZ.out]; exact HWK.out⟩
end
end
section
open Go Go.RowKit
def P0 (w:Zc)(h:Nat)(lim:Int)(p:Nat × Int) :Prop:=
 Zy w h 22 #[.int .u64 lim]∧Zy w (h+1) 3 #[.int .i64 (p.1:Int)]∧Zy w (h+2) 22 #[.int .u64 p.2]
def Ng (h:Nat) :Zo:= .func (.func 294) #[] #[.pointer (some ⟨h+2,0,none⟩),.pointer (some ⟨h+1,0,none⟩),.pointer (some ⟨h,0,none⟩)]
theorem oW (W:Zc)(v:Zo)(t:ZT) : ∀j u,[v][j]?=some u→(W.alloc (.cells #[v] t)).cell? ((⟨W.heap.size,0,none⟩ :Addr).add j)=some u:=by
 intro j u hj
 match j,hj with
 | 0,hj=>
  simp at hj;subst hj;rw [add_plain];exact (Zw W t #[v]).cell 0
def BQ (x:Int) :Prop:=0≤x∧x≤18446744073709551615
section
variable {w w':Zc} {h:Nat} {k:Nat} {lim s x:Int} {p:Nat × Int} {S:Nat→Prop} {a:Option Addr} {L:List Int}
theorem P0.kept (hb:P0 w h lim p)(hk:Kept S w w')(hS: ∀i,h≤i→i≤h+2→ ¬S i) :P0 w' h lim p:=
 ⟨hb.1.kept hk (hS _ Zp Zp),hb.2.1.kept hk (hS _ Zp Zp),hb.2.2.kept hk (hS _ Zp Zp)⟩
theorem P0.lt (hb:P0 w h lim p) :h+2 < w.heap.size:=hb.2.2.lt
theorem R7 (lim:Int)(w:Zc) :
  Zi Zb 259 #[.int .u64 lim] w fun e w'=>e= .returned (Ng w.heap.size)∧P0 w' w.heap.size lim (0,0)∧Zt w.heap.size w w'∧w'.heap.size=w.heap.size+3:=by
 have IZ: ∀(fn:Fn) (first cap:Array Zo) (w:Zc),(Jj fn first cap).run Zb w= .ok (.func fn first cap) w:=fun _ _ _ _=>rfl
 have c1:((w.alloc (.cells #[.int .u64 lim] 22)).alloc (.cells #[.int .i64 0] 3)).cell? ⟨w.heap.size+1,0,none⟩=some (.int .i64 0):=by
  have:=(Zw (w.alloc (.cells #[.int .u64 lim] 22)) 3 #[.int .i64 0]).cell 0;rwa [Q9] at this
 go_enter Tryz.func259,Tryz.ntmps259;go_wp2;go_ret;have b1:=Zw (w.alloc (.cells #[.int .u64 lim] 22)) 3 #[.int .i64 0];rw [Q9] at b1;have b2:=Zw ((w.alloc (.cells #[.int .u64 lim] 22)).alloc (.cells #[.int .i64 0] 3)) 22 #[.int .u64 0];rw [Q9,Q9] at b2;exact ⟨rfl,⟨((Zw w _ _).alloc _).alloc _,b1.alloc _,b2⟩,(((Zr _ w).alloc (Zg _) _).alloc ZO _).alloc Vq _,by simp⟩
theorem P5 (s x:Int)(w:Zc)(hs:BQ s)(hx:BQ x) :
  Zi Zb 23 #[.slice (some ⟨w.heap.size,0,none⟩) 2 2] (w.alloc (.cells #[.int .u64 s,.int .u64 x] 22)) fun e w'=>e= .returned (.tuple #[.int .u64 (if s+x≤18446744073709551615 then s+x else 0),.bool (decide (s+x≤18446744073709551615))])∧w.alloc (.cells #[.int .u64 s,.int .u64 x] 22)=w':=by
 have b:=Zw w 22 #[.int .u64 s,.int .u64 x];have h:=Fk w.heap.size 0 2 2 [s,x] (w.alloc (.cells #[.int .u64 s,.int .u64 x] 22)) Zp (fun i hi=>by
  rcases i with _ | _ | i
  ·exact b.cell 0
  ·exact b.cell 1
  ·omega) (fun i=>by
  rcases i with _ | _ | i
  ·exact hs
  ·exact hx
  ·exact ⟨Int.le_refl 0,show (0:Int)≤18446744073709551615 by decide⟩)
 have e:XT [s,x] 2=s+x:=by simp [XT]
 rw [EG,G9,e] at h;exact h
theorem oT (w:Zc)(hb:P0 w h lim (0,s))(hs:BQ s)(hx:BQ x)(hl:BQ lim) :
  Zi Zb 294 #[.int .u64 x,.pointer (some ⟨h+2,0,none⟩),.pointer (some ⟨h+1,0,none⟩),.pointer (some ⟨h,0,none⟩)] w fun e w'=>
   e= .returned (.int .i64 ((Vl lim (0,s) x).1:Int))∧P0 w' h lim (Vl lim (0,s) x)∧Kept (fun i=>i=h+1∨i=h+2) w w':=by
 have HA:=P5 s x w hs hx;have HE:=Za (Sa lim s x);generalize (if s+x≤18446744073709551615 then s+x else 0)=q at HA;generalize decide (s+x≤18446744073709551615)=ok at HA;have nE:=Za HA;have B:=Za hb;have X:=Za hx;have S:=Za hs;have c0:(w.alloc (.cells #[.int .u64 s,.int .u64 x] 22)).cell? ⟨h,0,none⟩=some (.int .u64 lim):=(hb.1.alloc _).cell 0;have c1:(w.alloc (.cells #[.int .u64 s,.int .u64 x] 22)).cell? ⟨h+1,0,none⟩=some (.int .i64 0):=(hb.2.1.alloc _).cell 0;have c2:w.cell? ⟨h+2,0,none⟩=some (.int .u64 s):=hb.2.2.cell 0;have c2':(w.alloc (.cells #[.int .u64 s,.int .u64 x] 22)).cell? ⟨h+2,0,none⟩=some (.int .u64 s):=(hb.2.2.alloc _).cell 0;have f1:(w.alloc (.cells #[.int .u64 s,.int .u64 x] 22)).frozen? ⟨h+1,0,none⟩=false:=(hb.2.1.alloc _).frozen 0;have f2:(w.alloc (.cells #[.int .u64 s,.int .u64 x] 22)).frozen? ⟨h+2,0,none⟩=false:=(hb.2.2.alloc _).frozen 0;clear HA hb hs hx;go_enter Tryz.func294,Tryz.ntmps294;go_wp2_with fail;refine nE.out.mono ?_;rintro e w' ⟨rfl,rfl⟩;clear nE;go_wp2;go_ret;rw [HE.out];refine ⟨rfl,⟨?_,?_,?_⟩,?_⟩
 ·exact ((B.out.1.alloc _).far (show h≠h+1 by omega) _).far (show h≠h+2 by omega) _
 ·exact ((B.out.2.1.alloc _).set_ 0 _).far (show h+1≠h+2 by omega) _
 ·exact ((B.out.2.2.alloc _).far (show h+2≠h+1 by omega) _).set_ 0 _
 ·exact (((ZM _ w).alloc _).setCell (.inl (.inl rfl)) _).setCell (.inl (.inr rfl)) _
theorem oR (w:Zc)(hb:P0 w h lim (k+1,s))(hs:BQ s)(hx:BQ x)(hl:BQ lim)(hk:k≤1000000000)(ho: ¬s+x≤18446744073709551615) :
  Zi Zb 294 #[.int .u64 x,.pointer (some ⟨h+2,0,none⟩),.pointer (some ⟨h+1,0,none⟩),.pointer (some ⟨h,0,none⟩)] w fun e w'=>
   e= .returned (.int .i64 ((Vl lim (k+1,s) x).1:Int))∧P0 w' h lim (Vl lim (k+1,s) x)∧Kept (fun i=>i=h+1∨i=h+2) w w':=by
 have HA:=P5 s x w hs hx;have hgt:lim < s+x:=by unfold BQ at*; omega
 have HE:=Za (R9 (k:=k) hgt);rw [if_neg ho,decide_eq_false ho] at HA;have HK:Hid (k≤1000000000):=Za hk;have bw: ¬((k:Int)+1=0):=by omega
 clear hgt;exact zT9
theorem Zbk (w:Zc)(hb:P0 w h lim (k+1,s))(hs:BQ s)(hx:BQ x)(hl:BQ lim)(hk:k≤1000000000)(ho:s+x≤18446744073709551615)(hgt:lim < s+x) :
  Zi Zb 294 #[.int .u64 x,.pointer (some ⟨h+2,0,none⟩),.pointer (some ⟨h+1,0,none⟩),.pointer (some ⟨h,0,none⟩)] w fun e w'=>
   e= .returned (.int .i64 ((Vl lim (k+1,s) x).1:Int))∧P0 w' h lim (Vl lim (k+1,s) x)∧Kept (fun i=>i=h+1∨i=h+2) w w':=by
 have HA:=P5 s x w hs hx;have HE:=Za (R9 (k:=k) hgt);rw [if_pos ho,decide_eq_true ho] at HA;generalize hq:s+x=q at*;have bw: ¬((k:Int)+1=0):=by omega
 have HQ:=Za hq;clear hq;exact zT9
theorem vj (w:Zc)(hb:P0 w h lim (k+1,s))(hs:BQ s)(hx:BQ x)(hl:BQ lim)(hk:k≤1000000000)(ho:s+x≤18446744073709551615)(hle: ¬lim < s+x) :
  Zi Zb 294 #[.int .u64 x,.pointer (some ⟨h+2,0,none⟩),.pointer (some ⟨h+1,0,none⟩),.pointer (some ⟨h,0,none⟩)] w fun e w'=>
   e= .returned (.int .i64 ((Vl lim (k+1,s) x).1:Int))∧P0 w' h lim (Vl lim (k+1,s) x)∧Kept (fun i=>i=h+1∨i=h+2) w w':=by
 have HA:=P5 s x w hs hx;have HE:=Za (WX (k:=k) hle);rw [if_pos ho,decide_eq_true ho] at HA;generalize hq:s+x=q at*;have bw: ¬((k:Int)+1=0):=by omega
 have Rd:((k:Int)+1==0)=false:=by simp; omega
 have hle2:decide (lim < q)=false:=by simp; omega
 have HQ:=Za hq;clear hq;have nE:=Za HA;have B:=Za hb;have X:=Za hx;have S:=Za hs;have c0:(w.alloc (.cells #[.int .u64 s,.int .u64 x] 22)).cell? ⟨h,0,none⟩=some (.int .u64 lim):=(hb.1.alloc _).cell 0;have c1:(w.alloc (.cells #[.int .u64 s,.int .u64 x] 22)).cell? ⟨h+1,0,none⟩=some (.int .i64 ((k:Int)+1)):=(hb.2.1.alloc _).cell 0;have c2:w.cell? ⟨h+2,0,none⟩=some (.int .u64 s):=hb.2.2.cell 0;have c2':(w.alloc (.cells #[.int .u64 s,.int .u64 x] 22)).cell? ⟨h+2,0,none⟩=some (.int .u64 s):=(hb.2.2.alloc _).cell 0;have f1:(w.alloc (.cells #[.int .u64 s,.int .u64 x] 22)).frozen? ⟨h+1,0,none⟩=false:=(hb.2.1.alloc _).frozen 0;have f2:(w.alloc (.cells #[.int .u64 s,.int .u64 x] 22)).frozen? ⟨h+2,0,none⟩=false:=(hb.2.2.alloc _).frozen 0;clear HA hb hs hx;go_enter Tryz.func294,Tryz.ntmps294;go_wp2_with fail;refine nE.out.mono ?_;rintro e w' ⟨rfl,rfl⟩;clear nE;go_wp2;go_ret;rw [HE.out];refine ⟨rfl,⟨?_,?_,?_⟩,?_⟩
 ·exact (B.out.1.alloc _).far (show h≠h+2 by omega) _
 ·exact (B.out.2.1.alloc _).far (show h+1≠h+2 by omega) _
 ·exact (B.out.2.2.alloc _).set_ 0 _
 ·exact ((ZM _ w).alloc _).setCell (.inl (.inr rfl)) _
theorem vg (w:Zc)(hb:P0 w h lim p)(hs:BQ p.2)(hx:BQ x)(hl:BQ lim)(hk:p.1≤1000000000) :
  Zi Zb 294 #[.int .u64 x,.pointer (some ⟨h+2,0,none⟩),.pointer (some ⟨h+1,0,none⟩),.pointer (some ⟨h,0,none⟩)] w fun e w'=>
   e= .returned (.int .i64 ((Vl lim p x).1:Int))∧P0 w' h lim (Vl lim p x)∧Kept (fun i=>i=h+1∨i=h+2) w w':=by
 obtain ⟨k,s⟩:=p
 cases k with
 | zero=>exact oT w hb hs hx hl
 | succ k=>
  by_cases ho:s+x≤18446744073709551615
  ·by_cases hgt:lim < s+x
   ·exact Zbk w hb hs hx hl (by simp at hk; omega) ho hgt
   ·exact vj w hb hs hx hl (by simp at hk; omega) ho hgt
  ·exact oR w hb hs hx hl (by simp at hk; omega) ho
end
end
section
open Go Go.RowKit
theorem fL {x:Int}(h:BQ x) :EG [x] 1=x∧G9 [x] 1=true:=by
 have e:XT [x] 1=x:=by simp [XT]
 exact ⟨by rw [EG,e,if_pos h.2],by rw [G9,e,decide_eq_true h.2]⟩
section
variable {w w':Zc} {h k:Nat} {lim s x:Int} {p:Nat × Int} {S:Nat→Prop} {a:Option Addr} {L:List Int} {cap:Nat}
theorem au (i:Int)(hu:N9 w S a L)(hL:L.length≤9223372036854775807)(hA:LX L) :
  Zi Zb 261 #[.slice a L.length cap,.int .i64 i] w fun e w'=>e= .returned (.int .u64 (Kz L i))∧Zt w.heap.size w w':=by
 have hb:Zt w.heap.size w (w.alloc (.cells #[.int .i64 i] 3)):=(Zr _ _).alloc (Zg _) _;have HW:=Za (dw (I:= [i]) (ic:=1) (cap:=cap) (S2:=fun _=>False) (hu.below hb) hL hA (JL.of_blk (L:= [i]) (Zw w 3 #[.int .i64 i]) (fun h=>h)) ZO);have HB:=Za hb;have HO:=Za (fL (NV hA i));clear hb hu hL hA;go_enter Tryz.func261,Tryz.ntmps261;go_wp2_with fail;refine HW.out.mono ?_;rintro e w' ⟨rfl,b1⟩;rw [List.map_cons,List.map_nil,List.length_singleton,HO.out.1,HO.out.2];have B1:=Za b1;clear b1 HW;go_wp2;go_ret;exact ⟨rfl,HB.out.trans (B1.out.mono HB.out.size)⟩
theorem wW (bb wb:Nat)(i:Int)(w:Zc)(hB:Zy w bb 324 #[Ng h])(hW:Zy w wb 143 #[.slice a L.length cap])(hu:N9 w S a L)(hL:L.length≤9223372036854775807)(hA:LX L)
  (hb:P0 w h lim p) (hs:BQ p.2) (hl:BQ lim) (hk:p.1≤1000000000) :
  Zi Zb 260 #[.int .i64 i,.pointer (some ⟨bb,0,none⟩),.pointer (some ⟨wb,0,none⟩)] w fun e w'=>
   e= .returned (.bool (((Vl lim p (Kz L i)).1:Int)==1))∧P0 w' h lim (Vl lim p (Kz L i))∧Kept (fun i=>i=h+1∨i=h+2) w w':=by
 have HWt:=Za (fun w' (hb':Zt w.heap.size w w')=>au (cap:=cap) i (hu.below hb') hL hA);have uB:=Za (fun w' (h':P0 w' h lim p)=>vg w' h' hs (NV hA i) hl hk);have uA:=Za (Zl hB (Zl hW hb));have c1:w.cell? ⟨bb,0,none⟩=some (Ng h):=hB.cell 0;have c2:w.cell? ⟨wb,0,none⟩=some (.slice a L.length cap):=hW.cell 0;have HC:=Za (Zl c1 c2);clear hB hW hb hu hA c1 c2;go_enter Tryz.func260,Tryz.ntmps260;go_wp2;refine MZ (fun w'=>w'.cell? ⟨bb,0,none⟩=some (Ng h)∧w'.cell? ⟨wb,0,none⟩=some (.slice a L.length cap)) 4 1 [0,1,2] HC.out ?_;simp only [qF,qH];show wpQuiet _ _ _ _ [_,_,_] _;refine Yw 324 _ ⟨bb,0,none⟩ (Ng h) rfl rfl rfl (fun w h=>by simp [go_sem,h]) (fun w h=>h.1) ?_;refine Yw 143 _ ⟨wb,0,none⟩ (.slice a L.length cap) rfl rfl rfl (fun w h=>by simp [go_sem,h]) (fun w h=>h.2) ?_;simp only [qB];iterate 1 (go_big_quiet_step ((intros; rfl)))
 refine wpQuiet_nil ?_;refine Qt (i:=3) ?_;refine JM #[.slice a L.length cap,.int .i64 i] Tryz.call261 ((HWt.out w.drew (Below.drew (Zr _ _))).mono ?_);rintro e w1 ⟨rfl,b1⟩;have B1:Hid (Zt w.heap.size w w1):=Za ((Below.drew (Zr _ _)).trans b1);clear b1;have K1:Hid (P0 w1 h lim p):=Za (uA.out.2.2.kept (S:=fun _=>False) (Y4 B1.out) (fun _ _ _ h=>h));refine ⟨_,rfl,⟨(uA.out.1.below B1.out uA.out.1.lt).cell 0,(uA.out.2.1.below B1.out uA.out.2.1.lt).cell 0⟩,?_⟩;show Region.seqB _ _ _ _ _=true∧_;refine ⟨by kernel_rfl,?_⟩;simp only [qA];have H4:=Za (uB.out w1 K1.out);have B2:Hid (Kept (fun i=>i=h+1∨i=h+2) w w1):=Za (Y4 B1.out);clear uB HWt uA HC K1 B1;generalize hq:Vl lim p (Kz L i)=q at H4;have HQ:=Za hq;clear hq;unfold Ng;go_wp2_with fail;refine H4.out.mono ?_;rintro e w' ⟨rfl,b4,k4⟩;have B4:=Za (Zl b4 k4);clear b4 k4 H4;go_wp2;refine NoPanic.normal ?_;go_wp2;go_ret;rw [HQ.out];exact ⟨rfl,B4.out.1,B2.out.trans B4.out.2 (fun _ _ h=>h)⟩
end
end
section
open Go Go.ChangeShapes Go.WideShapes Go.RowKit Go.Deep
structure Rc where
 kd:Int
 cd:Int
 ix:Int
 bl:Int
 ep:Int
 dl:Int
 aa:Option Addr
 an:Nat
 ac:Nat
 pa:Option Addr
 pn:Nat
 pc:Nat
 vs:Int
deriving Inhabited
def Rc.row (v:Rc) :List Zo:= [.int .i64 v.kd,.int .i64 v.cd,.int .i64 v.ix,.int .i64 v.bl,.int .i64 v.ep,.int .i64 v.dl,.slice v.aa v.an v.ac,.slice v.pa v.pn v.pc,.int .i64 v.vs]
def Zz (v:Rc) :Array Zo:=v.row.toArray
def FP (x:Int) :Prop:= -9223372036854775808≤x∧x≤9223372036854775807
structure Zbd (v:Rc) :Prop where
 kd:FP v.kd
 cd:FP v.cd
 ix:FP v.ix
 bl:FP v.bl
 ep:FP v.ep
 dl:FP v.dl
 vs:FP v.vs
structure Mv (w:Zc)(S:Nat→Prop)(v:Rc)(la:List As)(lp:List Pm) :Prop where
 nums:Zbd v
 asg:J6 As.row 3 w S v.aa la
 an:la.length=v.an
 ac:v.an≤v.ac∧v.ac≤maxLen
 fa: ∀x ∈ la,A9 x
 pay:J6 Pm.row 3 w S v.pa lp
 pn:lp.length=v.pn
 pc:v.pn≤v.pc∧v.pc≤maxLen
 fp: ∀x ∈ lp,ob x
def Gb:Rc:=⟨0,0,0,0,0,0,none,0,0,none,0,0,0⟩
theorem Rc.row_len (v:Rc) :v.row.length=9:=rfl
theorem Rc.row_one (v:Rc) : ∀u ∈ v.row,u.oneCell'=true:=by
 intro u hu;simp only [Rc.row,List.mem_cons,List.not_mem_nil,or_false] at hu
 rcases hu with rfl | rfl | rfl | rfl | rfl | rfl | rfl | rfl | rfl <;> rfl
theorem YC (v:Rc) :(Zz v).all (·.oneCell')=true:=by
 refine Array.all_eq_true_iff_forall_mem.2 (fun u hu=>Rc.row_one v u (by simpa [Zz] using hu))
theorem YS:(Tryz.prog.info? 42).map (·.size)=some 9:=by kernel_rfl
section
variable {w w':Zc} {S T:Nat→Prop} {v:Rc} {la:List As} {lp:List Pm}
theorem Mv.below (h:Mv w S v la lp)(hb:Zt w.heap.size w w') :Mv w' S v la lp:= { h with asg:=h.asg.below hb,pay:=h.pay.below hb}
theorem Mv.kept (h:Mv w S v la lp)(hb:Kept S w w') :Mv w' S v la lp:= { h with asg:=h.asg.kept hb,pay:=h.pay.kept hb}
theorem Mv.more (h:Mv w S v la lp)(hT: ∀i,i < w.heap.size→T i→S i) :Mv w T v la lp:= { h with asg:=h.asg.more hT,pay:=h.pay.more hT}
theorem Mv.alloc (h:Mv w S v la lp)(o:Obj) :Mv (w.alloc o) S v la lp:= { h with asg:=h.asg.alloc o,pay:=h.pay.alloc o}
theorem qE {x:Int}(h:(Lit.int .i64 x).wf=true) :FP x:=by
 simp [Lit.wf,IntKind.min,IntKind.max,IntKind.signed,IntKind.bits] at h;unfold FP;omega
end
section
variable {P:Program} {ops:Array Oper} {rest:List Oper} {op:Oper} {a:Act} {w:Zc} {Q:Exit→Act→Zc→Prop}
theorem TP (BU:op.guard=none)(ty:ZT)(x:Operand)(ho:op.op= .load ty x)
  (b o:Nat) (hx:a.eval x= .pointer (some ⟨b,o,none⟩)) (v:Rc) (d:TypeDesc) (hc:w.rangeAt b o v.row)
  (hu:P.underlying ty=some d) (hd:d.isRow=true) (hi:(P.info? ty).map (·.size)=some 9)
  (h:wpList P ops Q rest (a.put op.dst (.agg (Zz v))) w) :wpList P ops Q (op::rest) a w:=
 wpList_load_mid BU ty x ho b o hx v.row d hc hu hd hi h
theorem F7 (hg:op.guard=none)(t:ZT)(parts:Array (Nat × Operand))(ho:op.op= .build t parts)(v:Rc)
  (hf:P.built t (parts.map fun (i,x)=>(i,a.eval x)).toList=some (Zz v)) (h:wpList P ops Q rest (a.put op.dst (.agg (Zz v))) w) :wpList P ops Q (op::rest) a w:=
 wpList_build hg t parts ho (by rw [hf]; rfl) (by rw [hf]; exact h)
end
end
section
open Go Go.RowKit Go.Deep
theorem P7 {α:Type}{la lb:List α}{k:Nat}{x y:α}(hx:la[k]?=some x)(hy:lb[k]?=some y)(h:la.take k=lb.take k) :(la.take (k+1)=lb.take (k+1) ↔ x=y):=by
 rw [YN,YN,hx,hy,h];simp
theorem NC {α:Type}{la lb:List α}{k:Nat}{x y:α}(hx:la[k]?=some x)(hy:lb[k]?=some y)(h:x≠y) :la≠lb:=by
 rintro rfl;rw [hx] at hy;exact h (Option.some.inj hy)
theorem XW {w w':Zc}{b o:Nat}{cs:List Zo}(h:w.rangeAt b o cs)(hl:b < w.heap.size)(hb:Zt w.heap.size w w') :w'.rangeAt b o cs:=Bf h (hb.block b hl)
end
end Go.Proofs.YtianiiijaopdpaaGreat
