/- Part 21 of 34: L15Div L15Mul. -/
import Derived.Test.YtobgbcdgffgdhaaGreatZx00
import Derived.Test.YtobgbcdgffgdhaaGreatZx01
import Derived.BigQuiet
import Derived.Deep.CutBlock
import Derived.Deep.DeepCutAuto
import Derived.Lib.Hide
import Derived.Lib.ItoaNum
import Derived.Test.YtobgbcdgffgdhaaGreatRows
import Derived.Test.YtobgbcdgffgdhaaGreatShelf
import Derived.WalkLawsBesides
namespace Go.Proofs.YtobgbcdgffgdhaaGreat
set_option linter.unusedVariables false
set_option linter.unusedSimpArgs false
set_option maxRecDepth 100000
set_option maxHeartbeats 8000000
open _root_.Go.RowKit.Below renaming refl -> Zn
open _root_.Go renaming Calls -> Zv, World -> Zc
open _root_.Int renaming natCast_mul -> JS, toNat_natCast -> Y7
open _root_.Go.IntKind renaming wrap_u64 -> Kz
open _root_.Nat renaming div_lt_iff_lt_mul -> KN, le_refl -> Zh, mul_assoc -> GK, mul_comm -> Ks
open _root_.Go.Proofs.Tryz renaming prog -> Zb
open Go.Proofs.Tryz
theorem Wg {G:Prop}(h:G:=by rw [epp]; omega) :G:=h
theorem Zgi {G:Prop} (h:G:=by
  go_wp2;go_round
  case rel=>exact ⟨q - 1,r+y1,by go_num,by go_num,HC⟩
  case measure=>simp [intOf]; omega) :G:=h
theorem pD {G:Prop} (h:G:=by
  go_wp2;go_meet;exact ⟨rfl,rfl⟩) :G:=h
theorem Zml {G:Prop} (h:G:=by
  generalize a*b/18446744073709551616=x at*;generalize a*b%18446744073709551616=y at*;have H:=Za hm;have HV:=Za hv;clear hm hv ha hb hd h;go_enter func221,ntmps221;go_wp2_with fail;refine (H.o _).mono ?_;rintro e w1 ⟨rfl,Hj⟩;go_wp2_with fail;refine (HV.o _).mono ?_;rintro e w2 ⟨rfl,Dg⟩;go_wp2_with fail;go_ret2;exact ⟨rfl,Hj.trans (Dg.mono Hj.size)⟩) :G:=h
theorem Zmm {G:Prop} (h:G:=by
  by_cases hb:(4294967296:Int)<=r+y1
  · have e:=IK tB.o HD.o H2.o Zd
    have e2:(q:Int) - 1=(Q2:Int):=by rw [hQ2.o]; omega
    clear e;exact pD
  · have HC:=Za (fg tB.o HD.o H2.o Zd)
    exact Zgi) :G:=h
theorem Zmn {G:Prop} (h:G:=by
  by_cases hb:(4294967296:Int)<=r+y1
  · have e:=IK ok.o HD.o H2.o Zd
    have e2:(q:Int) - 1=(Q:Int):=by rw [hQ.o]; omega
    clear e;exact pD
  · have HC:=Za (fg ok.o HD.o H2.o Zd)
    exact Zgi) :G:=h
theorem Zfm {G:Prop} (h:G:=by
  have:q*y0<=4294967295*4294967295:=Nat.mul_le_mul Zd Zd;omega) :G:=h
section
open Go.RowKit
theorem jV (hi lo y:Int)(s:Int)(Y y1 y0 v L u1 u0 Q v2 Q2:Nat)(w:Zc)(h0:0<=lo)(h1:lo<=18446744073709551615)(h2:1<=hi)(h3:y<=18446744073709551615)(h4:hi < y)
   (hlz: ∀w,Zv Zb 297 #[.int .u64 y] w fun e w'=>e= .returned (.int .i64 s)/\w=w') (Ty:0<=s) (gd:s < 64)
   (eY:IntKind.u64.wrap (y*2^s.toNat)=(Y:Int)) (ey1:(Y:Int)/4294967296=y1) (ey0:bits BinOp.and IntKind.u64 (Y:Int) 4294967295=(y0:Int))
   (eL:IntKind.u64.wrap (lo*2^s.toNat)=(L:Int)) (eu1:(L:Int)/4294967296=u1) (eu0:bits BinOp.and IntKind.u64 (L:Int) 4294967295=(u0:Int))
   (ev:bits BinOp.or IntKind.u64 (IntKind.u64.wrap (hi*2^s.toNat)) (lo/2^(64 - s).toNat)=(v:Int))
   (ok:Zj (Ok v u1 y1 y0)) (hYy:Zj (Y=y1*4294967296+y0)) (hu0:Zj (u0 < 4294967296))
   (hQ:Zj (Q=(v*4294967296+u1)/(y1*4294967296+y0))) (SJ:Zj (v2=(v*4294967296+u1)%(y1*4294967296+y0)))
   (e21:IntKind.u64.wrap (IntKind.u64.wrap (IntKind.u64.wrap ((v:Int)*4294967296)+(u1:Int)) - IntKind.u64.wrap ((Q:Int)*(Y:Int)))=(v2:Int)) (hvlt:Zj (v2 < y1*4294967296+y0))
   (ZkG:IntKind.u64.wrap (IntKind.u64.wrap ((Q:Int)*4294967296)+(Q2:Int))=((Q*4294967296+Q2:Nat) :Int))
   (hQ2:Zj (Q2=(v2*4294967296+u0)/(y1*4294967296+y0))) :
    Zv Zb 283 #[.int .u64 hi,.int .u64 lo,.int .u64 y] w fun e w'=> ∃r,e= .returned (.tuple #[.int .u64 (Q*4294967296+Q2:Nat),.int .u64 r])/\w=w':=by
  have hy:(y==0)=false:=by simp; omega
  have hh:(hi==0)=false:=by simp; omega
  have H:=Za hlz;clear hlz;have k1:=ok.o.lo;have k2:=ok.o.hi;have k3:=ok.o.hy0;have k4:=ok.o.hv;have k5:=ok.o.hu;have k6:v<=18446744073709551615:=Zd;have hd:=IL ok.o;generalize eq:v/y1=q at hd;have eq':(v:Int)/(y1:Int)=(q:Int):=by rw [<-eq]; exact (Int.natCast_ediv v y1).symm
  have hp:q*y1<=v:=by rw [<-eq]; exact Nat.div_mul_le_self v y1
  generalize er:v - q*y1=r at hd;generalize ep:q*y1=p at hp er;have ep':(q:Int)*(y1:Int)=(p:Int):=by rw [<-ep]; exact (JS q y1).symm
  have er':(v:Int) -(p:Int)=(r:Int):=Zd;have HD:=Za hd;have hq:=ZcY ok.o hd;have hr:=hd.lt;clear hd eq er ep;have c1:(2147483648:Int)<=y1:=Zd;have c2:(y1:Int)<=4294967295:=Zd;have c3:(y0:Int)<=4294967295:=Zd;have c5:(u1:Int)<=4294967295:=Zd;have c6:(v:Int)<=18446744073709551615:=Zd;have c7:(q:Int)<=4294967297:=Zd;have c8:(r:Int)<=4294967295:=Zd;have K4:=Za k4;clear k1 k2 k3 k4 k5 k6 hq hr;have E21:=Za e21;have EF:=Za ZkG;clear e21 ZkG;go_enter func283,ntmps283;go_upto_block 0 with (go_at_call 297; refine (H.o _).mono ?_; rintro e w' ⟨rfl,rfl⟩);clear eY ev eL ey1 ey0 eu1 eu0;go_cut [15,16] (fun s15 s16 wx=>s15= .int .u64 Q/\w=wx)
  case first=>
    clear H eq' E21 EF;go_wp2;clear ep';go_loop [15,16] (fun s15 s16=> ∃q r:Nat,s15= .int .u64 q/\s16= .int .u64 r/\Zj (Dig v u1 y1 y0 q r)) (fun s15 _=>(intOf s15).toNat)
    case atStart=>exact ⟨q,r,rfl,rfl,HD⟩
    case round=>
      clear HD c7 c8 hp er';obtain ⟨q,r,rfl,rfl,HD⟩:=hrel;have hq:=ZcY ok.o HD.o;have hr:=HD.o.lt;have c7:(q:Int)<=4294967297:=Zd;have c8:(r:Int)<=4294967295:=Zd;clear hq hr
      by_cases ht1:(4294967296:Int)<=q
      · have ht:4294967296<=q\/4294967296*r+u1 < q*y0:= .inl Zd
        have tA:1<=q:=(Es ok.o HD.o ht).1;have H2:=Za ht;clear ht;exact Zmn
      · have hqy:q*y0<=18446744065119617025:=Zfm
        have ZhF:((q*y0:Nat) :Int)<=18446744065119617025:=Zd;clear hqy;generalize epp:q*y0=pp at ZhF;have epp':(q:Int)*(y0:Int)=(pp:Int):=by rw [<-epp]; exact (JS q y0).symm
        by_cases ht2:(4294967296:Int)*r+u1 < pp
        · have ht:4294967296<=q\/4294967296*r+u1 < q*y0:= .inr Wg
          have tA:1<=q:=(Es ok.o HD.o ht).1;have H2:=Za ht;clear ht epp;exact Zmn
        · have e:=nA ok.o HD.o Zd Wg
          obtain rfl:q=Q:=by rw [hQ.o]; exact e
          clear e epp;exact pD
  case rest=>
    obtain ⟨rfl,rfl⟩:=hcut;clear H HD c6 c7 c8 c5 hp er' ep' eq';have e21:=E21.o;have tB:Zj (Ok v2 u0 y1 y0):=Za ⟨ok.o.lo,ok.o.hi,ok.o.hy0,hvlt.o,hu0.o⟩;have hd:=IL tB.o;have k4:=tB.o.hv;have k1:=tB.o.hi;have k2:=tB.o.hy0;have c6:(v2:Int)<=18446744073709551615:=Zd;have c5:(u0:Int)<=4294967295:=by have:=tB.o.hu; omega
    generalize eq:v2/y1=q at hd;have eq':(v2:Int)/(y1:Int)=(q:Int):=by rw [<-eq]; exact (Int.natCast_ediv v2 y1).symm
    have hp:q*y1<=v2:=by rw [<-eq]; exact Nat.div_mul_le_self v2 y1
    generalize er:v2 - q*y1=r at hd;generalize ep:q*y1=p at hp er;have ep':(q:Int)*(y1:Int)=(p:Int):=by rw [<-ep]; exact (JS q y1).symm
    have er':(v2:Int) -(p:Int)=(r:Int):=Zd;have HD:=Za hd;have hq:=ZcY tB.o hd;have hr:=hd.lt;have c7:(q:Int)<=4294967297:=Zd;have c8:(r:Int)<=4294967295:=Zd;clear hd eq er ep k4 k1 k2 hq hr;go_upto_block 2 with fail;clear e21;go_cut [16,18] (fun s16 s18 wx=>s18= .int .u64 Q2/\w=wx)
    case first=>
      clear E21 EF eq';go_wp2;clear ep';go_loop [16,18] (fun s16 s18=> ∃q r:Nat,s18= .int .u64 q/\s16= .int .u64 r/\Zj (Dig v2 u0 y1 y0 q r)) (fun _ s18=>(intOf s18).toNat)
      case atStart=>exact ⟨q,r,rfl,rfl,HD⟩
      case round=>
        clear HD c7 c8 hp er';obtain ⟨q,r,rfl,rfl,HD⟩:=hrel;have hq:=ZcY tB.o HD.o;have hr:=HD.o.lt;have c7:(q:Int)<=4294967297:=Zd;have c8:(r:Int)<=4294967295:=Zd;clear hq hr
        by_cases ht1:(4294967296:Int)<=q
        · have ht:4294967296<=q\/4294967296*r+u0 < q*y0:= .inl Zd
          have tA:1<=q:=(Es tB.o HD.o ht).1;have H2:=Za ht;clear ht;exact Zmm
        · have hqy:q*y0<=18446744065119617025:=Zfm
          have ZhF:((q*y0:Nat) :Int)<=18446744065119617025:=Zd;clear hqy;generalize epp:q*y0=pp at ZhF;have epp':(q:Int)*(y0:Int)=(pp:Int):=by rw [<-epp]; exact (JS q y0).symm
          by_cases ht2:(4294967296:Int)*r+u0 < pp
          · have ht:4294967296<=q\/4294967296*r+u0 < q*y0:= .inr Wg
            have tA:1<=q:=(Es tB.o HD.o ht).1;have H2:=Za ht;clear ht epp;exact Zmm
          · have e:=nA tB.o HD.o Zd Wg
            obtain rfl:q=Q2:=by rw [hQ2.o]; exact e
            clear e epp;exact pD
    case rest=>
      obtain ⟨rfl,rfl⟩:=hcut;have ef:=EF.o;go_wp2;go_ret2;exact ⟨_,rfl,rfl⟩
theorem oQ (n:Nat)(h:n < 18446744073709551616) :IntKind.u64.wrap (n:Int)=(n:Int):=IntWalk.u64_in _ Zd
theorem yz (n:Nat) :IntKind.u64.wrap (n:Int)=((n%18446744073709551616:Nat) :Int):=by rw [Kz]; omega
theorem sZ (v u p r:Nat)(h1:v*4294967296+u - p=r)(h2:p<=v*4294967296+u)(h3:r < 18446744073709551616) :
  IntKind.u64.wrap (IntKind.u64.wrap (IntKind.u64.wrap ((v:Int)*4294967296)+(u:Int)) - IntKind.u64.wrap (p:Int))=(r:Int):=by
 simp only [Kz];omega
theorem xf (a b s:Nat)(ha:a*2^s < 18446744073709551616)(hb:b < 2^s)(Dg:b < 18446744073709551616) :bits .or .u64 ((a*2^s:Nat) :Int) (b:Int)=((a*2^s+b:Nat) :Int):=by
 rw [u64_or_nat _ _ ha Dg,Ks a,<-Nat.two_pow_add_eq_or_of_lt hb]
theorem fh (hi lo y:Nat)(w:Zc)(h1:lo < 18446744073709551616)(h2:1<=hi)(h3:y < 18446744073709551616)(h4:hi < y) :
  Zv Zb 283 #[.int .u64 hi,.int .u64 lo,.int .u64 y] w fun e w'=> ∃r,e= .returned (.tuple #[.int .u64 ((hi*18446744073709551616+lo)/y:Nat),.int .u64 r])/\w=w':=by
 have hlz: ∀w,Zv Zb 297 #[.int .u64 y] w fun e w'=>e= .returned (.int .i64 (64 -(Lib.bitLen (y:Int).toNat:Int)))/\w=w':=fun w=>
  (Tryz.bits_LeadingZeros64 y w Zd Zd).mono fun e w' h=>⟨h.1,h.2.symm⟩
 obtain ⟨b1,b2,b3⟩:=Lib.bitLenAux_bounds 64 y h3 Zd;have b4:Lib.bitLenAux 64 y<=64:=Lib.bitLen_le y 64 (Zh _) h3;rw [Y7] at hlz;unfold Lib.bitLen at hlz;generalize Lib.bitLenAux 64 y=t at*;obtain ⟨s,hs⟩ : ∃s,s+t=64:=⟨64 - t,by omega⟩;have es:(64:Int) -(t:Int)=(s:Int):=Zd;rw [es] at hlz;have hST:2^s*2^t=18446744073709551616:=by rw [<-Nat.pow_add,hs]
 have hT2:2^t=2*2^(t - 1):=by rw [<-Nat.pow_succ']; congr 1; omega
 have hT:0 < 2^t:=Nat.two_pow_pos t;have hS:0 < 2^s:=Nat.two_pow_pos s;have pS:(2:Int)^s=((2^s:Nat) :Int):=by simp
 have pT:(2:Int)^t=((2^t:Nat) :Int):=by simp
 have eT:((64:Int) -(s:Int)).toNat=t:=Zd;have hY1:y*2^s < 18446744073709551616:=by rw [<-hST,Ks]; exact Nat.mul_lt_mul_of_pos_left b3 hS
 have hY2:9223372036854775808<=y*2^s:=by
  have:2^s*(2*2^(t - 1))<=2^s*(2*y):=Nat.mul_le_mul_left _ Zd;rw [<-hT2,hST] at this;have e:2^s*(2*y)=2*(y*2^s):=by rw [Ks,GK]
  omega
 have dU:lo/2^t < 2^s:=by rw [KN hT,hST]; exact h1
 have hhi:hi*2^s+2^s<=y*2^s:=by rw [<-Nat.succ_mul]; exact Nat.mul_le_mul_right _ h4
 have hN:(hi*18446744073709551616+lo)*2^s=(hi*2^s+lo/2^t)*18446744073709551616+lo*2^s%18446744073709551616:=by
  have e1:lo*2^s/18446744073709551616=lo/2^t:=by rw [<-hST,Ks]; exact Nat.mul_div_mul_left _ _ hS
  have e2:=Nat.div_add_mod (lo*2^s) 18446744073709551616;rw [e1] at e2;have e3:hi*18446744073709551616*2^s=hi*2^s*18446744073709551616:=by rw [GK,Ks 18446744073709551616,GK]
  rw [Nat.add_mul,e3];omega
 have Zk1:(hi*18446744073709551616+lo)/y=((hi*2^s+lo/2^t)*18446744073709551616+lo*2^s%18446744073709551616)/(y*2^s):=by
  rw [<-hN]; exact (Nat.mul_div_mul_right _ _ hS).symm
 have eY:IntKind.u64.wrap ((y:Int)*2^(s:Int).toNat)=((y*2^s:Nat) :Int):=by
  rw [Y7,pS,<-JS]; exact oQ _ hY1
 have eL:IntKind.u64.wrap ((lo:Int)*2^(s:Int).toNat)=((lo*2^s%18446744073709551616:Nat) :Int):=by
  rw [Y7,pS,<-JS]; exact yz _
 have ev:bits BinOp.or IntKind.u64 (IntKind.u64.wrap ((hi:Int)*2^(s:Int).toNat)) ((lo:Int)/2^((64:Int) -(s:Int)).toNat)=((hi*2^s+lo/2^t:Nat) :Int):=by
  rw [Y7,eT,pS,pT,<-JS,oQ _ Zd,<-Int.natCast_ediv];exact xf hi (lo/2^t) s Zd dU (Nat.lt_of_le_of_lt (Nat.div_le_self _ _) h1)
 have hL:lo*2^s%18446744073709551616 < 18446744073709551616:=Nat.mod_lt _ (by decide);have hv:hi*2^s+lo/2^t < y*2^s:=Zd;rw [Zk1];generalize y*2^s=Y at*;generalize hi*2^s+lo/2^t=v at*;generalize lo*2^s%18446744073709551616=L at*;clear Zk1 hN hhi dU hST hT2 b2 b3 pS pT eT;have a1:(Y:Int)/4294967296=((Y/4294967296:Nat) :Int):=Zd;have a0:bits BinOp.and IntKind.u64 (Y:Int) 4294967295=((Y%4294967296:Nat) :Int):=by rw [and_low32 _ Zd Zd]; omega
 have d1:(L:Int)/4294967296=((L/4294967296:Nat) :Int):=Zd;have d0:bits BinOp.and IntKind.u64 (L:Int) 4294967295=((L%4294967296:Nat) :Int):=by rw [and_low32 _ Zd Zd]; omega
 have hYe:Y=Y/4294967296*4294967296+Y%4294967296:=Zd;have vr:v*18446744073709551616+L=v*18446744073709551616+L/4294967296*4294967296+L%4294967296:=Zd;have ok:Ok v (L/4294967296) (Y/4294967296) (Y%4294967296):=⟨by omega,by omega,by omega,by omega,by omega⟩;have hu0:L%4294967296 < 4294967296:=Zd;have hY0:0 < Y:=Zd;rw [vr];clear vr;generalize Y/4294967296=y1 at*;generalize Y%4294967296=y0 at*;generalize L/4294967296=u1 at*;generalize L%4294967296=u0 at*;subst hYe;obtain ⟨Q,hQ⟩ : ∃Q,Q=(v*4294967296+u1)/(y1*4294967296+y0):=⟨_,rfl⟩;obtain ⟨v2,hV2⟩ : ∃v2,v2=(v*4294967296+u1)%(y1*4294967296+y0):=⟨_,rfl⟩;obtain ⟨Q2,hQ2⟩ : ∃Q2,Q2=(v2*4294967296+u0)/(y1*4294967296+y0):=⟨_,rfl⟩;have hres:=bF hY0 hQ hV2 hQ2;rw [hres];have hr:=l7 hY0 Zd hQ hV2;have SJ:=hr.2.2;have hQlt:=Cp ok hQ;have hQ2lt:=Cp (v:=v2) (u:=u0) ⟨ok.lo,ok.hi,ok.hy0,SJ,hu0⟩ hQ2;have g1:IntKind.u64.wrap (IntKind.u64.wrap (IntKind.u64.wrap ((v:Int)*4294967296)+(u1:Int)) - IntKind.u64.wrap ((Q:Int)*((y1*4294967296+y0:Nat) :Int)))=(v2:Int):=by
  have e1:(Q:Int)*((y1*4294967296+y0:Nat) :Int)=((Q*(y1*4294967296+y0) :Nat) :Int):=(JS _ _).symm;rw [e1];exact sZ v u1 _ v2 hr.1 hr.2.1 Zd
 have g2:IntKind.u64.wrap (IntKind.u64.wrap ((Q:Int)*4294967296)+(Q2:Int))=((Q*4294967296+Q2:Nat) :Int):=by
  simp only [Kz];omega
 have t1:(0:Int)<=lo:=Zd;have t2:(lo:Int)<=18446744073709551615:=Zd;have t3:(1:Int)<=hi:=Zd;have t4:(y:Int)<=18446744073709551615:=Zd;have t5:(hi:Int)< y:=Zd;have t6:(0:Int)<=s:=Zd;have t7:(s:Int)< 64:=Zd;have K1:=Za ok;have K2:=Za hu0;have K3:=Za hQ;have K4:=Za hV2;have K5:=Za SJ;have K6:=Za hQ2;have K7:Zj (y1*4294967296+y0=y1*4294967296+y0):=Za rfl;exact jV hi lo y s (y1*4294967296+y0) y1 y0 v L u1 u0 Q v2 Q2 w t1 t2 t3 t4 t5 hlz t6 t7 eY a1 a0 eL d1 d0 ev K1 K7 K2 K3 K4 g1 K5 g2 K6
end
section
open Go.RowKit
def rB (a b d:Nat) :Bool:=decide (1<=d/\a*b/d < 18446744073709551616)
def mdQ (a b d:Nat) :Nat:=if 1<=d/\a*b/d < 18446744073709551616 then a*b/d else 0
theorem Zh3 {a b d:Nat}(h1:1<=d)(h2:a*b/d < 18446744073709551616) :rB a b d=true/\mdQ a b d=a*b/d:=
 ⟨decide_eq_true ⟨h1,h2⟩,if_pos ⟨h1,h2⟩⟩
theorem ZlG {a b d:Nat}(h: ¬(1<=d/\a*b/d < 18446744073709551616)) :rB a b d=false/\mdQ a b d=0:=
 ⟨decide_eq_false h,if_neg h⟩
theorem Zh2 (a b d:Nat) :(1<=d/\a*b/d < 18446744073709551616) ↔ a*b/18446744073709551616 < d:=by
 generalize a*b=n;constructor
 ·rintro ⟨h1,h2⟩;have h3:=(KN (show 0 < d by omega)).1 h2;omega
 ·intro h;have h1:1<=d:=Zd;refine ⟨h1,?_⟩;rw [KN Zd];omega
theorem cv (a b:Nat)(w:Zc)(ha:a < 18446744073709551616)(hb:b < 18446744073709551616) :
  Zv Zb 253 #[.int .u64 a,.int .u64 b] w fun e w'=>e= .returned (.agg #[.int .u64 ((a*b/18446744073709551616:Nat) :Int),.int .u64 ((a*b%18446744073709551616:Nat) :Int)])/\Below w.heap.size w w':=by
 have hm:=fun w=>Tryz.bits_Mul64 a b ha hb w
 generalize a*b/18446744073709551616=hi at*;generalize a*b%18446744073709551616=lo at*;have H:=Za hm;clear hm ha hb;go_enter func253,ntmps253;go_wp2_with (go_at_call 282; refine (H.o _).mono ?_; rintro e w' ⟨rfl,rfl⟩);exact bodyPost_ret (v:= .agg #[.int .u64 hi,.int .u64 lo]) (by simp [results,Tryz.results253,go_sem]) rfl ⟨rfl,(Zn _ _).alloc (Zh _) _⟩
theorem qt (hi lo d:Int)(w:Zc)(hd:d<=hi) :
  Zv Zb 254 #[.agg #[.int .u64 hi,.int .u64 lo],.int .u64 d] w fun e w'=>e= .returned (.tuple #[.int .u64 0,.bool false])/\Below w.heap.size w w':=by
 go_enter func254,ntmps254;go_wp2;go_ret2;exact ⟨rfl,(Zn _ _).alloc (Zh _) _⟩
theorem jW (hi lo d q:Int)(w:Zc)(hd:hi < d)(h64: ∀w,Zv Zb 283 #[.int .u64 hi,.int .u64 lo,.int .u64 d] w fun e w'=> ∃r,e= .returned (.tuple #[.int .u64 q,.int .u64 r])/\ ∃n,w'=w.drewN n) :
  Zv Zb 254 #[.agg #[.int .u64 hi,.int .u64 lo],.int .u64 d] w fun e w'=>e= .returned (.tuple #[.int .u64 q,.bool true])/\Below w.heap.size w w':=by
 have H:=Za h64;clear h64;go_enter func254,ntmps254;go_wp2_with (go_at_call 283; refine (H.o _).mono ?_; rintro e w' ⟨r,rfl,n,rfl⟩);go_ret2;exact ⟨rfl,below_drewN ((Zn _ _).alloc (Zh _) _) _⟩
theorem fi (lo y:Int)(w:Zc)(h0:0<=lo)(h1:lo<=18446744073709551615)(h2:1<=y)(h3:y<=18446744073709551615) :
  Zv Zb 283 #[.int .u64 0,.int .u64 lo,.int .u64 y] w fun e w'=>e= .returned (.tuple #[.int .u64 (lo/y),.int .u64 (lo%y)])/\ ∃n,w'=w.drewN n:=by
 have hy:(y==0)=false:=by simp; omega
 have hq:0<=lo/y:=Int.ediv_nonneg h0 Zd;have hq2:lo/y<=lo:=Int.ediv_le_self _ h0;go_enter func283,ntmps283;go_wp2;go_quiet (fail);go_wp2;go_ret2;exact ⟨rfl,_,rfl⟩
theorem qq (n d:Nat)(hi lo:Nat)(w:Zc)(h1:lo < 18446744073709551616)(h3:d < 18446744073709551616)(h4:hi < d)(hn:n=hi*18446744073709551616+lo) :
  Zv Zb 283 #[.int .u64 hi,.int .u64 lo,.int .u64 d] w fun e w'=> ∃r,e= .returned (.tuple #[.int .u64 (n/d:Nat),.int .u64 r])/\ ∃k,w'=w.drewN k:=by
 subst hn
 by_cases h0:hi=0
 ·subst h0;refine (fi lo d w Zd Zd Zd Zd).mono fun e w' h=>⟨(lo:Int)%(d:Int),?_,h.2⟩
  rw [h.1,Nat.zero_mul,Nat.zero_add,Int.natCast_ediv]
 ·exact (fh hi lo d w h1 Zd h3 h4).mono fun e w' ⟨r,h,hw⟩=>⟨r,h,0,by rw [<-hw]; rfl⟩
theorem lk (a b d:Nat)(w:Zc)(ha:a < 18446744073709551616)(hb:b < 18446744073709551616)(hd:d < 18446744073709551616) :
  Zv Zb 221 #[.int .u64 a,.int .u64 b,.int .u64 d] w fun e w'=>e= .returned (.tuple #[.int .u64 (mdQ a b d:Nat),.bool (rB a b d)])/\Below w.heap.size w w':=by
 have hm:=fun w=>cv a b w ha hb
 have dU:a*b%18446744073709551616 < 18446744073709551616:=Nat.mod_lt _ (by decide);have hn:a*b=a*b/18446744073709551616*18446744073709551616+a*b%18446744073709551616:=Zd;have hi:=Zh2 a b d
 by_cases h:a*b/18446744073709551616 < d
 ·have hv:=fun w=>jW (a*b/18446744073709551616:Nat) (a*b%18446744073709551616:Nat) d (a*b/d:Nat) w Zd fun w=>qq (a*b) d _ _ w dU hd h hn
  obtain ⟨e1,e2⟩:=Zh3 (hi.2 h).1 (hi.2 h).2;rw [e1,e2];clear hi e1 e2 hn dU;generalize a*b/d=q at*;exact Zml
 ·have hv:=fun w=>qt (a*b/18446744073709551616:Nat) (a*b%18446744073709551616:Nat) d w Zd
  obtain ⟨e1,e2⟩:=ZlG (fun x=>h (hi.1 x));rw [e1,e2];clear hi e1 e2 hn dU;exact Zml
end
end Go.Proofs.YtobgbcdgffgdhaaGreat
