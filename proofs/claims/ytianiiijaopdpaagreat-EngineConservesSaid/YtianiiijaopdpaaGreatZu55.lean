/- Part 55 of 58: Nums WEngineConserves. -/
import Derived.Test.YtianiiijaopdpaaGreatZu00
import Derived.Test.YtianiiijaopdpaaGreatZu51
import Derived.Test.YtianiiijaopdpaaGreatZu54
namespace Go.Proofs.YtianiiijaopdpaaGreat
set_option linter.unusedVariables false
set_option linter.unusedSimpArgs false
set_option maxRecDepth 100000
set_option maxHeartbeats 8000000
open _root_.Go.Act renaming put → YL
open _root_.And renaming intro → Zl
open _root_.Go.RowKit.Below renaming refl → Zr
open _root_.Go.Proofs.YtianiiijaopdpaaGreat.Zy renaming cell → Yh
open _root_.Go.Instr renaming buildSlice → Y1
open _root_.Go.Lib renaming hid → Za
open _root_.List renaming getElem?_eq_some_iff → Zh, map_cons → YW, mem_append → YK, mem_cons → Z6, mem_filter → Qw, mem_map → Yj, not_mem_nil → Ya
open _root_.Nat renaming le_refl → Zg
open _root_.Go.Proofs.Tryz renaming prog → Zb, underlying24 → ZC, underlying37 → ZS
open _root_.Go renaming World → Zc, heap_alloc_new → ZD, wpList_load_row → Zn, wpList_store_row → Zm
open _root_.Go.World renaming setRow_alloc_new → Zu
theorem IV {G:Prop}(h:G:=by have:=few.v; omega) :G:=h
theorem IQ {G:Prop}(h:G:=by unfold FP; simp only; omega) :G:=h
theorem Zg2 {G:Prop} (h:G:=by
  unfold exO
  split
  ·exact acc_num h Ze vZ hix (exD_sm hc _ _).i64
  ·exact rej_num h Ze vZ (exC_sm _ _)) :G:=h
theorem ZaI {G:Prop} (h:G:=by
  clear h0 h1;go_wp2_with fail;go_meet
  case rel=>exact ⟨by rw [HT.out],rfl⟩) :G:=h
theorem kg {G:Prop} (h:G:=by
  repeat' split
  all_goals (unfold Sm; omega)) :G:=h
theorem tv {G:Prop} (h:G:=by
  exact acc_num h Ze vZ hix i64_m) :G:=h
section
open Go Go.RowKit
theorem LG {x:Int}(h:FP x) :(Lit.int .i64 x).wf=true:=by
 unfold FP at h;exact dx
theorem pF {x:Int}(h0:0≤x)(h1:x≤18446744073709551615) :(Lit.int .u64 x).wf=true:=by
 exact dx
def Sm (x:Int) :Prop:= -1≤x∧x≤1099511627776
theorem Sm.i64 {x:Int}(h:Sm x) :FP x:=by unfold Sm at h; unfold FP; omega
theorem Iu: ∀(l:List M3) (v:Yd),(∀f ∈ l,∀v,Sm (f v).1)→Sm (Qn l v).1
 | [],v,_=>by unfold Qn Sm; simp
 | f::l,v,h=>by
  unfold Qn
  split
  ·exact Iu l _ fun g hg=>h g (by simp [hg])
  ·exact h f ZO v
theorem Ia (e:Int)(v:Yd) :Sm (Qm e v).1:=by unfold Qm Sm; split <;> simp
theorem rR (e:Int)(v:Yd) :Sm (Xs e v).1:=by unfold Xs Sm; split <;> simp
theorem jl (e n:Int)(v:Yd) :Sm (Q3 e n v).1:=by unfold Q3 Sm; split <;> simp
theorem jv (v:Yd) :Sm (Vn v).1:=by unfold Vn Sm; split <;> simp
theorem vm (s d:Yd)(m:Int) :Sm (DQ s d m):=by
 unfold DQ;exact kg
theorem xz (l:List Yd)(p:Int × Int)(m:Int) :Sm (Db l p m):=by
 unfold Db
 split
 ·unfold Sm; simp
 ·split
  ·unfold Sm; simp
  ·exact vm _ _ _
theorem vn (l:List Yd)(r:Rq) :Sm (My l r):=by
 unfold My;exact kg
theorem Zc3 (v:Yd)(e:Int)(c:Nat→Int) :Sm (Hc v e c).1:=by
 unfold Hc KG
 split <;> refine Iu _ _ fun f hf v=>?_
 ·simp only [Z6,Ya,or_false] at hf
  rcases hf with rfl | rfl | rfl | rfl
  ·exact jv v
  ·exact Ia _ v
  ·exact jl _ _ v
  ·exact rR _ v
 ·simp only [Z6,Ya,or_false] at hf
  rcases hf with rfl | rfl | rfl
  ·exact jv v
  ·exact Ia _ v
  ·exact jl _ _ v
section
variable {c:Nat→Int} {k:Nat} {s:Sg}
theorem vp (x:Int) :Sm (Nl c s x):=by
 unfold Nl;exact kg
theorem exC_sm (i cl:Int) :Sm (iV c s i cl):=by
 unfold iV
 split
 ·unfold Sm; simp
 split
 ·unfold Wn;refine Iu _ _ fun f hf v=>?_
  simp only [Z6,Ya,or_false] at hf
  rcases hf with rfl | rfl
  ·exact rR _ v
  ·exact Ia _ v
 ·exact kg
theorem Zc2 (i:Int) :Sm (WH c s i):=by
 unfold WH
 split
 ·unfold Sm; simp
 split
 ·exact Zc3 _ _ _
 ·unfold Sm; split <;> simp
theorem Zbl (p:Int × Int) :Sm (nJ c s p):=by
 unfold nJ
 split
 ·exact xz _ _ _
 ·unfold Sm; split <;> simp
theorem ZcL (r:Rq) :Sm (ru c s r):=by
 unfold ru
 split
 ·exact vn _ _
 ·unfold Sm; split <;> simp
theorem exD_sm (hc:GE c)(i cl:Int) :Sm (tI c s i cl):=by
 unfold tI
 cases hd:Ou c s cl (Vy s.V i) with
 | none=>unfold Sm; simp
 | some d=>
  unfold Ou at hd
  split at hd
  ·have h1:=qW (by have:=hc.g.unb0; have:=(OR hc.g).1; omega) hd;unfold Sm;simp only [Option.getD_some];omega
  ·cases hd
structure iI (r:Rp) :Prop where
 kd:FP r.kd
 cd:FP r.cd
 ix:FP r.ix
 bl:FP r.bl
 ep:FP r.ep
 dl:FP r.dl
 vs:FP r.vs
 la: ∀x ∈ r.la,A9 x
 lp: ∀x ∈ r.lp,ob x
theorem Inv.nums (h:Inv c k s)(hk:k≤1000000) :FP s.bk∧FP s.ep:=by
 have:=h.bk0;have:=h.bk1;have:=h.ep0;have:=h.ep1;unfold FP;omega
theorem js:FP 0:=by unfold FP; omega
theorem i64_m:FP (-1):=by unfold FP; omega
theorem rej_num (h:Inv c k s)(hk:k≤1000000){o:Int}(ho:FP o){x:Int}(hx:Sm x) :iI (UN s o x):=
 ⟨ho,hx.i64,i64_m,(h.nums hk).1,(h.nums hk).2,i64_m,js,fun x h=>(Ya h).elim,fun x h=>(Ya h).elim⟩
theorem acc_num (h:Inv c k s)(hk:k≤1000000){o:Int}(ho:FP o){i d:Int}(hi:FP i)(hd:FP d) :iI (Fj s o i d):=
 ⟨ho,js,hi,(h.nums hk).1,(h.nums hk).2,hd,js,fun x h=>(Ya h).elim,fun x h=>(Ya h).elim⟩
theorem oJ {s:Sg}(hx: ∀i ∈ s.F++s.W,Bl s.V Dv i)(h0:0≤s.ep)(h1:s.ep≤1000001)(hl:s.V.length≤4096) : ∀x ∈ Wp c s,A9 x:=by
 intro x zS;unfold Wp at zS;obtain ⟨p,hp,rfl⟩:=Yj.1 zS;have Ek:=kJ _ _ _ _ p hp;obtain ⟨l1,l2⟩:=kK (wV (BJ s)) s.F s.W (gr s.cy (Ob c s));have hm:p.1 ∈ s.F++s.W:=by
  rcases Ek with h3 | h3
  ·rw [YK,l1];exact .inl (List.mem_append_left _ (Yj.2 ⟨p,Qw.2 ⟨hp,by simp [h3]⟩,rfl⟩))
  ·rw [YK,l2];exact .inr (List.mem_append_left _ (Yj.2 ⟨p,Qw.2 ⟨hp,by simp [h3]⟩,rfl⟩))
 obtain ⟨m,u,e,hu,_⟩:=hx _ hm;have lS:=(Zh.1 hu).1;exact ⟨LG IQ,LG IQ,LG IQ⟩
theorem CR: ∀q:List Pm,(∀p ∈ q,0≤p.am)→0≤JJ q∧ ∀p ∈ q,p.am≤JJ q
 | [],_=>⟨by simp [JJ],fun p hp=>(Ya hp).elim⟩
 | y::q,h=>by
  obtain ⟨h1,h2⟩:=CR q fun p hp=>h p (by simp [hp])
  have h3:=h y ZO;simp only [JJ];refine ⟨by omega,fun p hp=>?_⟩
  rcases Z6.1 hp with rfl | hp
  ·omega
  ·have:=h2 p hp; omega
theorem ZcH (hc:GE c)(h:Inv c k s)(hk:k+1≤1000000)(hl:s.V.length≤4096)(o:Oq)(ho:Kg o) :iI (opO c s o).1:=by
 have vZ:FP o.kd:=qE ho.1;have hix:FP o.ix:=qE ho.2.1
 by_cases h7:o.kd=7
 ·have e:opO c s o=nw c s:=by
   exact tx
  have hb:=OG hc h Ze o;have hp:=ZcI hc h Ze o;have hi:=rj hc h Ze o ho;have jm:=jz (c:=c) (s:=s) o;rw [e] at hb hp hi jm ⊢;have hn:=hi.nums hk;have Pg:=hi.sum;have I0:=hi.b0;have M4:=hi.d1;have hs3:=total_nonneg hi.fits;have hp0:=h.p0;have hv1:=hc.g.vis1;have hlen:((nw c s).2.V.length:Int)≤c 0:=hi.len;have Ns:=hc.g.cap1;refine ⟨by unfold FP; show _≤(7:Int)∧(7:Int)≤_; omega,js,i64_m,hn.1,hn.2,i64_m,by unfold FP; omega,?_,fun p hpm=>?_⟩
  ·show ∀x ∈ nxO c s,A9 x;unfold nxO
   split
   ·exact oJ (s:= { s with bk:=s.bk+1,ep:=s.ep+1}) h.lnx (by have:=h.ep0; simp only; omega) (by have:=h.ep1; have:=h.bk1; simp only; omega) hl
   ·exact fun x hx=>(Ya hx).elim
  ·obtain ⟨i,v,hi1,Uq,_⟩:=hb.2.2.2 p hpm;have EB:=(Zh.1 Uq).1;have hle:=(CR _ hp).2 p hpm;have:=hp p hpm;exact ⟨LG (by unfold FP; omega),pF this Ze⟩
 ·unfold opO
  split
  ·unfold DR; split
   ·exact acc_num h Ze vZ (by unfold FP; omega) i64_m
   ·exact rej_num h Ze vZ (vp _)
  split
  ·exact Zg2
  split
  ·exact Zg2
  split
  ·unfold Rj; split
   ·exact tv
   ·exact rej_num h Ze vZ (Zc2 _)
  split
  ·unfold IX; split
   ·exact tv
   ·exact rej_num h Ze vZ (Zbl _)
  split
  ·unfold I2; split
   ·exact tv
   ·exact rej_num h Ze vZ (ZcL _)
  exact rej_num h Ze vZ (by unfold Sm; omega)
end
theorem ZfU {w:Zc}{r:Rp}{ia ip:Option Addr}{ca cp:Nat}(hn:iI r)(ha:w.ownsRow 0 71 3 (.slice ia r.la.length ca) r.la.length (Yx As.row r.la))(hp:w.ownsRow 0 61 3 (.slice ip r.lp.length cp) r.lp.length (Yx Pm.row r.lp)) :Mv w (fun _=>False) (AF r ia ca ip cp) r.la r.lp:=by
 have cap: ∀ {e:TypeId} {k n c:Nat} {a:Option Addr} {xs:List Value},w.ownsRow 0 e k (.slice a n c) n xs→n≤c∧c≤maxLen:=fun h=>by
  rcases h.2 with ⟨h1,h2⟩ | ⟨g,Bp,cur,h1,_,_,h3,h4,_⟩
  ·injection h1 with _ h4 h5;subst h4 h5;exact ⟨Zg _,by unfold maxLen; omega⟩
  ·injection h1 with _ _ h5;subst h5;exact ⟨h3,h4⟩
 exact ⟨⟨hn.kd,hn.cd,hn.ix,hn.bl,hn.ep,hn.dl,hn.vs⟩,(Vp As.row_len ha rfl).more fun _ _ h=>h.elim,rfl,cap ha,hn.la,(Vp Pm.row_len hp rfl).more fun _ _ h=>h.elim,rfl,cap hp,hn.lp⟩
end
section
open Go Go.RowKit Go.Deep
theorem Zab {x:Int}(h0:0≤x)(h1:x≤18446744073709551615) :IntKind.u64.wrap x=x:=by
 simp only [IntKind.wrap_u64];omega
theorem mR (x:Rc)(w:Zc) :(Y1 66 1 #[(0,.agg (Zz x))]).run Zb w= .ok (.slice (some ⟨w.heap.size,0,none⟩) 1 1) (w.alloc (.cells (Zz x) 42)):=by
 obtain ⟨i,hi,hz,hs,Hu⟩:=rM;simp [Y1,run_underlying Tryz.underlying66,sizeOf,typeInfo,hi,hz,hs,Instr.fill,newRow,go_sem,Zz,Rc.row]
theorem IH {ops:Array Oper}{rest:List Oper}{o:Oper}{a:Act}{w:Zc}{Q:Exit→Act→Zc→Prop}(BU:o.guard=none)(x:Operand)(p:Rc)(ho:o.op= .buildSlice 66 1 #[(0,x)])(hx:a.eval x= .agg (Zz p))
  (h:wpList Zb ops Q rest (a.put o.dst (.slice (some ⟨w.heap.size,0,none⟩) 1 1)) (w.alloc (.cells (Zz p) 42))) :wpList Zb ops Q (o::rest) a w:=
 wpList_plain BU fun _ hK=>by
  unfold Oper.wp execOp;simp only [ho,List.map_toArray,YW,List.map_nil,hx,Sem.run_bind,mR p w,Result.andThen_ok,Sem.run_pure];exact hK _ _ h
theorem mq {w:Zc}{x:Sv}{l:List Yd}(h:w.ownsRow 0 63 7 x.v l.length (XC l)) :Dj w (fun _=>False) x.a l:=by
 have hn:=Lb h;obtain ⟨a,n,c⟩:=x;simp only at hn;subst hn;exact DC h fun _ _ h=>h
theorem kD (g:Nat)(u y x:Int)(w:Zc)(h:Zy w g 22 #[.int .u64 u,.int .u64 y,.int .u64 x])(wE:0≤u)(hy0:0≤y)(bC:0≤x)(hs:u+y+x≤18446744073709551615) :
  Calls Zb 23 #[.slice (some ⟨g,0,none⟩) 3 3] w fun e w'=>e= .returned (.tuple #[.int .u64 (u+y+x),.bool true])∧w=w':=by
 have e:XT [u,y,x] 3=u+y+x:=by simp [XT]
 have k:=Fl (z:= [u,y,x]) (n:=3) (by rw [e]; exact hs);rw [e] at k;have:=Fk g 0 3 3 [u,y,x] w Ze (fun i hi=>by
  rw [Nat.zero_add,Yh h i];obtain rfl | rfl | rfl:i=0∨i=1∨i=2:=by omega
  all_goals rfl) (fun i=>by
  match i with
  | 0=>exact ⟨wE,by show u≤_; omega⟩
  | 1=>exact ⟨hy0,by show y≤_; omega⟩
  | 2=>exact ⟨bC,by show x≤_; omega⟩
  | i+3=>simp)
 rwa [k.1,k.2] at this
theorem Eg.to11 {N:Nat}{w0:Ez}{w:Zc}{c:Nat→Int}{a:Pl}{q:Ql}{Z Z':Nat→Zc→(Nat→Prop)→Prop}{s:Sg}{L:List QO}(h:Eg N w0 w c a q Z s L) :Eg 11 w0 w c a q Z' s L:=
 h.remap Ze id (fun _ _=>rfl) (fun _ h=>h) (fun k hk=>Nat.lt_of_lt_of_le hk h.low) (fun _ _ _ _ e=>e) (fun k h1 h2=>by omega)
theorem rY: ∀q:List Pm,sI (BX [q])=JJ q:=by
 intro q;unfold BX;rw [List.flatMap_cons,List.flatMap_nil,List.append_nil]
 induction q with
 | nil=>rfl
 | cons p q ih=>unfold dY at ih ⊢; rw [YW]; simp only [sI,JJ]; rw [ih]
theorem wY {w:Zc}{g:Nat}{x:Rc}(h:Zy w g 42 (Zz x)) :J6 Rc.row 9 w (fun _=>False) (some ⟨g,0,none⟩) [x]:=fun _=>⟨g,0,rfl,fun h=>h,h.lt,fun i v hi=>by
 rcases i with _ | i
 ·simp at hi;subst hi;intro j u hu;rw [Nat.zero_mul,Nat.add_zero,Nat.zero_add,h.cell j];simpa [Zz] using hu
 ·simp at hi⟩
theorem rB {w:Zc}{x:Rc}{la:List As}{lp:List Pm}(h:Mv w (fun _=>False) x la lp)(hl:lp.length≤1000) :Cf w [x] [lp]:=⟨rfl,fun i v p hi hp=>by
 rcases i with _ | i
 ·simp at hi hp;subst hi hp;exact ⟨⟨la,h⟩,hl⟩
 ·simp at hi⟩
theorem Lv (c:Nat→Int)(a1:Option Addr)(Vd cap1:Nat)(w:Zc)(f0:Wj c)(o1:iH w a1 Vd cap1) :Calls Zb 5 #[.agg (Zk c),.slice a1 Vd cap1] w fun e w'=>e= .returned (.bool true)∧Below w.heap.size w w':=by
 have B0:Zy (w.alloc (.cells (Zk c) 24)) w.heap.size 24 (Zk c):=Zy.new _ _ _;have b0:Below w.heap.size w (w.alloc (.cells (Zk c) 24)):=(Zr _ _).alloc (Zg _) _;obtain ⟨VU,qh,l,hl,nQ,nT⟩:=o1;have HLs:=Za (nT.below b0);have HLf:=Za nQ;have Wa:=Za hl;have N7:=Za B0;have uM:=Za b0;have HA:=Za (fun w=>Ch w);have T8:=Za (fun w=>Hz c a1 Vd cap1 w);clear VU qh nQ nT B0 b0 hl
 by_cases hf:Wi c Vd
 ·have LH:Sw c Vd=1:=if_pos hf;rw [LH] at T8;have hn4:Vd≤400:=by unfold Wi at hf; omega
  have HN:=Za (fun w=>ln (c:=c) w (Bu f0 hf.1) hf.1);have nG:=Za (yb f0 hf.1 hf.2.1);have HfB:=Za hf;clear hf LH f0;go_enter Tryz.func5,Tryz.ntmps5;go_upto_region 1 with (fail);generalize w.alloc (.cells (Zk c) 24)=W1 at*;generalize SA:w.heap.size=b at*;have kx:=Za SA;clear SA;go_wp2_with (first | (refine Zn rfl 24 _ rfl b rfl 24 _ (0,0) _ N7.out ZC rfl Xn ?_));refine (HN.out W1).mono ?_;rintro e w2 ⟨a,q,rfl,h2⟩;have E2:=Za (h2 M6);have VW:=Za (E2.out.kblk N7.out);clear h2 HN;go_wp2_with (first | (refine Zn rfl 24 _ rfl b rfl 24 _ (0,0) _ VW.out ZC rfl Xn ?_));refine (T8.out w2).mono ?_;rintro e w3 ⟨rfl,b3⟩;have E3:=Za (E2.out.below b3);clear b3 E2 VW T8;obtain ⟨s0,Pg⟩ : ∃s0,cW=s0:=⟨_,rfl⟩;obtain ⟨L0,hL0⟩ : ∃L0,([] :List QO)=L0:=⟨_,rfl⟩;have BM:s0.D=0∧s0.P=0:=by rw [←Pg]; exact BV
  rw [Pg,hL0] at nG E3;clear Pg hL0;go_wp2_with fail;go_loopw [7,8,31] (fun s7 s8 s31 wr=> ∃(k:Nat) (s:Sg) (L:List QO),k≤Vd∧s7= .int .u64 s.D∧s8= .int .u64 s.P∧s31= .int .i64 k∧Hid (N8 c k s L)∧Hid (Eg 11 ⟨fun _=>False,W1⟩ wr c a q M6 s L)) (fun _ _ s31 _=>Vd -(intOf s31).toNat)
  case atStart=>exact ⟨0,s0,L0,by omega,by rw [BM.1],by rw [BM.2],rfl,nG,E3⟩
  case round=>
   clear E3 nG BM;obtain ⟨k,s,L,hk,rfl,rfl,rfl,HS,HE⟩:=hrel
   by_cases XJ:k < Vd
   ·obtain ⟨o,ho⟩ : ∃o,l[k]?=some o:=⟨_,List.getElem?_eq_getElem (by rw [Wa.out]; exact XJ)⟩;have dM:=Za (HLf.out o (List.mem_of_getElem? ho));obtain ⟨ga,off,rfl,Mn⟩:=RE.at (N:=11) (.inl HLs.out) HE.out (Zg _) (fun _ _ _=>rfl) ho;have iF:=Za Mn;clear Mn ho;go_upto_region 10 with (first | (refine wpList_load_mid rfl 37 _ rfl ga (off+k*4) rfl o.row _ iF.out ZS rfl XV ?_) | (refine Zm rfl _ _ _ rfl wr.heap.size (ZJ o) rfl rfl 37 _ (ZD wr _) XV rfl (BD _) ?_; rw [Zu]));have E1:=Za (HE.out.box (ZJ o) 37);clear HE iF;generalize wr.alloc (.cells (ZJ o) 37)=V1 at*;generalize wr.heap.size=go at*;have dA:=Za (E1.out.blkAt (r:=11) Ze Ze xput_same);have oc:=Za (Ov HS.out Ze E1.out o dM.out);have M4:=HS.out.op Ze o dM.out;have DU:=Za M4;have HN:=Za (ZcH HS.out.ge HS.out.inv Ze (by have:=HS.out.few.v; omega) o dM.out);have HD:=Za (C0 (c:=c) (s:=s) o);have HP:=Za (jz (c:=c) (s:=s) o);have HB:=Za (OG HS.out.ge HS.out.inv Ze o).2.2.1;obtain ⟨R,hR⟩ : ∃R,(opO c s o).1=R:=⟨_,rfl⟩;obtain ⟨s2,M4⟩ : ∃s2,(opO c s o).2=s2:=⟨_,rfl⟩;obtain ⟨L2,hL2⟩ : ∃L2,VA c s L o=L2:=⟨_,rfl⟩;rw [M4,hL2] at DU;rw [hR] at HN HB;rw [hR,M4] at HD HP;rw [show opO c s o=(R,s2) from Prod.ext hR M4,hL2] at oc;have HI:=Za DU.out.inv;have HI0:=Za (Zl HS.out.inv.p0 (Zl (total_nonneg HS.out.inv.fits) (Zl HS.out.inv.b0 HS.out.inv.sum)));clear hR M4 hL2 E1 dM;go_wp2_with (first | (refine Zn rfl 37 _ rfl go rfl 37 _ (0,0) _ dA.out ZS rfl XV ?_));refine oc.out.mono ?_;rintro e V2 ⟨ia,ca,ip,cp,rfl,h2⟩;have E2:=Za h2;clear h2 oc;have HRc:=Za (ZfU HN.out (E2.out.row (r:=12) Ze Ze rfl) (E2.out.row (r:=13) Ze Ze rfl));obtain ⟨R2,hR2⟩ : ∃R2,AF R ia ca ip cp=R2:=⟨_,rfl⟩;have Wc:=Za (show R2.cd=R.cd by rw [←hR2]; rfl);rw [show AF (R,s2).1 ia ca ip cp=R2 from hR2];rw [hR2] at HRc;clear hR2;go_upto_region 11 with (first | (refine Zm rfl _ _ _ rfl V2.heap.size (Zz R2) rfl rfl 42 _ (ZD V2 _) YS rfl (YC _) ?_; rw [Zu]));have E3:Hid (Eg 15 ⟨fun _=>False,W1⟩ (V2.alloc (.cells (Zz R2) 42)) c a q (ZI (rowsX (ZI M6 11 (YR go 37 (ZJ o))) 12 R ia ca ip cp) 14 (YR V2.heap.size 42 (Zz R2))) s2 L2):=Za (E2.out.box (Zz R2) 42);have Zet:=Za (HRc.out.alloc (.cells (Zz R2) 42));clear E2 dA HRc;generalize V2.alloc (.cells (Zz R2) 42)=V3 at*;generalize V2.heap.size=gr at*;have dA:=Za (E3.out.blkAt (r:=11) (g:=go) (t:=37) (cs:=ZJ o) Ze Ze rfl);have dB:=Za (E3.out.blkAt (r:=14) (g:=gr) (t:=42) (cs:=Zz R2) Ze Ze rfl);try simp only [YL]
    obtain ⟨bb,SA⟩ : ∃bb,decide (o.kd=1∧R.cd=0)=bb:=⟨_,rfl⟩;have iE:=Za SA;clear SA;go_cut [45] from 38 to 45 (fun s45 wx=>s45= .bool bb∧wx=V3)
    case first=>
     by_cases h1:o.kd=1
     ·have k0:V3.cell? ⟨go,0,none⟩=some (.int .i64 1):=by rw [←h1]; exact dA.out.cell 0
      by_cases h0:R.cd=0
      ·have c1:V3.cell? ⟨gr,1,none⟩=some (.int .i64 0):=by rw [←h0,←Wc.out]; exact dB.out.cell 1
       have HT:=Za (show true=bb by rw [←iE.out]; exact (decide_eq_true ⟨h1,h0⟩).symm);exact ZaI
      ·have c1:V3.cell? ⟨gr,1,none⟩=some (.int .i64 R2.cd):=dB.out.cell 1;have d0:(R2.cd==0)=false:=by rw [Wc.out]; simpa using h0
       have HT:=Za (show false=bb by rw [←iE.out]; exact (decide_eq_false fun h=>h0 h.2).symm);exact ZaI
     ·have k0:V3.cell? ⟨go,0,none⟩=some (.int .i64 o.kd):=dA.out.cell 0;have d0:(o.kd==1)=false:=by simpa using h1
      have HT:=Za (show false=bb by rw [←iE.out]; exact (decide_eq_false fun h=>h1 h.1).symm);clear h1;go_wp2_with fail;go_meet
      case rel=>exact ⟨by rw [HT.out],rfl⟩
    case rest=>
     obtain ⟨rfl,hwc⟩:=hcut;obtain rfl:=hwc.symm;go_upto_if 45 with (fail);go_cut [7] from 46 to 49 (fun s7 wx=>s7= .int .u64 s2.D∧wx=V3)
     case first=>
      rcases bb with _ | _
      ·have e:s.D=s2.D:=by rw [HD.out,if_neg (of_decide_eq_false iE.out)]; omega
       have HEe:=Za e;clear e;go_wp2_with fail;go_meet
       case rel=>exact ⟨by rw [HEe.out],rfl⟩
      ·have k3:V3.cell? ⟨go,3,none⟩=some (.int .u64 o.am):=dA.out.cell 3;have hw:IntKind.u64.wrap (s.D+o.am)=s2.D:=by
        have e:s2.D=s.D+o.am:=by rw [HD.out,if_pos (of_decide_eq_true iE.out)]
        have:=HI.out.d1;have h2:=HI.out.sum;have:=total_nonneg HI.out.fits;have:=HI.out.p0;have:=HI.out.b0;rw [←e];exact Zab Ze Ze
       go_wp2_with fail;go_meet
       case rel=>exact BV
     case rest=>
      obtain ⟨rfl,hwc⟩:=hcut;obtain rfl:=hwc.symm;have EU:s2.P=s.P+JJ R.lp:=HP.out;have qy:0≤JJ R.lp∧s2.P≤18446744073709551615∧0≤s2.P:=by
       have h1:=HI.out.d1;have h2:=HI.out.sum;have h3:=total_nonneg HI.out.fits;have h4:=HI.out.p0;have h5:=HI.out.b0;exact ⟨(CR _ fun p hp=>(gU (HN.out.lp p hp).2).1).1,by omega,h4⟩
      have wg:R.lp.length≤1000:=by
       have:=HfB.out.2.2.2.1;have:=HB.out;omega
      have jm:=ry (some ⟨V3.heap.size,0,none⟩) 1 1 [R2] [R.lp] (V3.alloc (.cells (Zz R2) 42)) (wY (Zy.new _ _ _)) rfl (rB (Zet.out.alloc _) wg) Ze;have hpy:=cB (P:= [R.lp]) (by rw [rY]; have:=HI0.out.1; omega);rw [hpy.1,hpy.2,rY] at jm;have HPd:=Za jm;have MG:IntKind.u64.wrap (s.P+JJ R.lp)=s2.P:=by rw [←EU]; exact Zab qy.2.2 qy.2.1
      have LY:=Za (fun w' hb=>(E3.out.more1 (.cells (Zz R2) 42)).below (w':=w') hb);clear jm hpy EU qy wg HP HD iE dA Zet HN HB E3;generalize JJ R.lp=sp at*;go_wp2_with (first | (refine Zn rfl 42 _ rfl gr rfl 42 _ (0,0) _ dB.out Tryz.underlying42 rfl YS ?_) | (refine IH rfl _ R2 rfl rfl ?_));refine HPd.out.mono ?_;rintro e V4 ⟨rfl,hb4⟩;have E4:=Za (LY.out V4 hb4);clear hb4 HPd LY dB;go_wp2_with fail;refine (DU.out.snap Ze E4.out).mono ?_;rintro e V5 ⟨y1,y2,y3,y4,y5,y6,rfl,h5⟩;have E5:=Za h5;clear h5 E4 MG;go_upto_region 18 with (first | (refine Zm rfl _ _ _ rfl V5.heap.size (Y7 s2 (ZY s2.V) L2.length y1.v y2.v y3.v y4.v y5.v y6.v) rfl rfl 51 _ (ZD V5 _) Gn rfl (OO s2 _ _ y1.a y2.a y3.a y4.a y5.a y6.a y1.n y2.n y3.n y4.n y5.n y6.n y1.c y2.c y3.c y4.c y5.c y6.c) ?_; rw [Zu]));have E6:=Za (E5.out.box (Y7 s2 (ZY s2.V) L2.length y1.v y2.v y3.v y4.v y5.v y6.v) 51);clear E5;generalize V5.alloc (.cells (Y7 s2 (ZY s2.V) L2.length y1.v y2.v y3.v y4.v y5.v y6.v) 51)=V6 at*;generalize V5.heap.size=gs at*;have HBs:=Za (E6.out.blkAt (r:=21) Ze Ze xput_same);have VZ:=E6.out.row (r:=15) (e:=63) (kk:=7) (v:=y1.v) (n:=s2.V.length) (xs:=XC s2.V) Ze Ze rfl;have hyn:=Lb VZ;have nT:Dj V6 (fun _=>False) y1.a s2.V:=mq VZ;have few:=DU.out.few;have fts:=HI.out.fits;have tot:=HI.out.total DU.out.ge;have hfa:=pE (fun _=>False) y1.a y1.c s2.V V6 nT IV fts;rw [decide_eq_true Ze,←hyn] at hfa;have HFa:=Za hfa;have Zeq:=Za nT;have HYn:=Za hyn;have g2:V6.cell? ⟨gs,2,none⟩=some (.slice y1.a y1.n y1.c):=HBs.out.cell 2;clear VZ hyn nT few fts tot hfa;go_wp2_with fail;refine HFa.out.mono ?_;rintro e V7 ⟨rfl,hb7⟩;have E7:=Za (E6.out.below hb7);have Za5:=Za (Zeq.out.below hb7);have Zed:=Za (HBs.out.below hb7 HBs.out.lt);clear hb7 HFa Zeq HBs E6 g2;go_upto_region 20 with (fail);have T0:=Za (show Zy V7.drew gs 51 (Y7 s2 (ZY s2.V) L2.length y1.v y2.v y3.v y4.v y5.v y6.v) from Zy.drew Zed.out);have ED:=Za (E7.out.drew);have hto: ∀W,Below V7.heap.size V7 W→Calls Zb 24 #[.slice y1.a y1.n y1.c] W fun e w'=>e= .returned (.int .u64 (ZA s2.V))∧Below W.heap.size W w':=fun W hb=>by
       have few:=DU.out.few;have tot:=HI.out.total DU.out.ge;have:=Il (fun _=>False) y1.a y1.c s2.V W (Za5.out.below hb) IV HI.out.fits Ze;rwa [←HYn.out] at this
      have HTo:=Za (hto V7.drew (Zr _ _).drew);have je: ∀W,Below V7.heap.size V7 W→Calls Zb 25 #[.slice y1.a y1.n y1.c] W fun e w'=>e= .returned (.int .u64 (ZY s2.V))∧W=w':=fun W hb=>by
       have few:=DU.out.few;have tot:=HI.out.total DU.out.ge;have ha:=active_le HI.out.fits;have:=WB (fun _=>False) y1.a y1.c s2.V W (Za5.out.below hb) IV HI.out.fits Ze;rwa [←HYn.out] at this
      have HAc:=Za je;have HV7:=Za (Zr V7.heap.size V7).drew;clear hto je E7 Za5 Zed;refine MZ (fun w'=>Zy w' gs 51 (Y7 s2 (ZY s2.V) L2.length y1.v y2.v y3.v y4.v y5.v y6.v)) 13 7 [0,1,3,4,5,6] T0.out ?_;simp only [qF,qH];show wpQuiet _ _ _ _ [_,_,_,_,_,_] _;iterate 1 (go_big_quiet_step ((intros; rfl)))
      refine Yw 46 _ _ (.slice y1.a y1.n y1.c) rfl rfl rfl (fun w h=>by simp [go_sem,h]) (fun w h=>Yh h 2) ?_;simp only [qB];iterate 1 (go_big_quiet_step ((intros; rfl)))
      refine Yw 22 _ _ (.int .u64 s2.P) rfl rfl rfl (fun w h=>by simp [go_sem,h]) (fun w h=>Yh h 4) ?_;simp only [qB];iterate 1 (go_big_quiet_step ((intros; rfl)))
      refine Yw 22 _ _ (.int .u64 s2.B) rfl rfl rfl (fun w h=>by simp [go_sem,h]) (fun w h=>Yh h 5) ?_;simp only [qB];refine wpQuiet_nil ?_;generalize V7.drew=V8 at*;refine Qt (i:=2) ?_;refine JM #[.slice y1.a y1.n y1.c] Tryz.call24 (HTo.out.mono ?_);rintro e V9 ⟨rfl,hb9⟩;have T9:=Za (T0.out.below hb9 T0.out.lt);have E9:=Za (ED.out.below hb9);have HV9:=Za (HV7.out.trans (hb9.mono HV7.out.size));clear hb9 T0 ED HTo HV7;refine ⟨_,rfl,T9.out,?_⟩;simp only [YL,qG,qS];refine Qt (i:=7) ?_;refine YE rfl rfl (Ga 143 22 (.tmp 70) (.tmp 72) (.tmp 74) _ _ (.int .u64 (ZA s2.V)) (.int .u64 s2.P) (.int .u64 s2.B) rfl rfl rfl rfl Tryz.underlying143 DK rfl rfl rfl rfl ⟨T9.out.alloc _,?_⟩);simp only [YL,qG,qS];have ZbF:=kD V9.heap.size (ZA s2.V) s2.P s2.B _ (Zy.new V9 _ _) (total_nonneg HI.out.fits) HI.out.p0 HI.out.b0 (by rw [HI.out.sum]; exact HI.out.d1);rw [HI.out.sum] at ZbF;have T10:=Za (T9.out.alloc (.cells #[.int .u64 (ZA s2.V),.int .u64 s2.P,.int .u64 s2.B] 22));have yS:=Za (E9.out.more1 (.cells #[.int .u64 (ZA s2.V),.int .u64 s2.P,.int .u64 s2.B] 22));have Zey:=Za (HV9.out.alloc HV9.out.size (.cells #[.int .u64 (ZA s2.V),.int .u64 s2.P,.int .u64 s2.B] 22));clear T9 E9 HV9;generalize V9.alloc (.cells #[.int .u64 (ZA s2.V),.int .u64 s2.P,.int .u64 s2.B] 22)=V10 at*;generalize V9.heap.size=z9 at*;refine Qt (i:=8) ?_;refine JM #[.slice (some ⟨z9,0,none⟩) 3 3] Tryz.call23 (ZbF.mono ?_);rintro e w8 ⟨rfl,rfl⟩;refine ⟨_,rfl,T10.out,?_⟩;clear ZbF;simp only [YL,qG,qS];refine Wv (fun w'=>Zy w' gs 51 (Y7 s2 (ZY s2.V) L2.length y1.v y2.v y3.v y4.v y5.v y6.v)) (m:=4) (f:=0) [9,10,11,12] T10.out ?_;simp only [qF,qH];show wpQuiet _ _ _ _ [_,_,_,_] _;iterate 4 (go_big_quiet_step ((intros; rfl)))
      refine wpQuiet_nil ?_;show Region.seqB _ _ _ _ _=true∧_;refine ⟨by kernel_rfl,?_⟩;simp only [qA];go_wp2;refine NoPanic.normal ?_;have g2:V10.cell? ⟨gs,2,none⟩=some (.slice y1.a y1.n y1.c):=T10.out.cell 2;have g3:V10.cell? ⟨gs,3,none⟩=some (.int .u64 s2.D):=T10.out.cell 3;have g4:V10.cell? ⟨gs,4,none⟩=some (.int .u64 s2.P):=T10.out.cell 4;have g6:V10.cell? ⟨gs,6,none⟩=some (.int .u64 (ZY s2.V)):=T10.out.cell 6;clear T10;go_upto_region 21 with (fail);go_quiet ((go_at_call 25; exact GJ (HAc.out _ (below_drewN Zey.out _))));have oa:Hid (∀n,Eg 11 ⟨fun _=>False,W1⟩ (V10.drewN n) c a q M6 s2 L2):=Za fun n=>(yS.out.drewN n).to11
      clear g2 g3 g4 g6 HAc Zey yS;go_wp2_with fail;go_roundw
      case rel=>exact ⟨k+1,s2,L2,by omega,rfl,rfl,by go_num,DU,Za (oa.out _)⟩
      case measure=>exact Uz
   ·obtain rfl:k=Vd:=by omega
    clear XJ;have XJ: ¬k < k:=by omega
    have H8:=Za (HE.out.down);clear HE;go_wp2_with fail;refine (HA.out wr).mono ?_;rintro e w9 ⟨rfl,b9⟩;have H9:=Za b9;clear b9;go_wp2_with fail;go_ret;exact ⟨rfl,kx.out▸uM.out.trans ((H8.out.trans (H9.out.mono H8.out.size)).mono (Nat.le_of_lt N7.out.lt))⟩
 ·have LH:Sw c Vd=0:=if_neg hf;rw [LH] at T8;have HN:=Za (fun w=>Sn f0 w);clear LH hf f0;go_enter Tryz.func5,Tryz.ntmps5;go_upto_region 1 with (fail);generalize w.alloc (.cells (Zk c) 24)=W1 at*;generalize SA:w.heap.size=b at*;have kx:=Za SA;clear SA;go_wp2_with (first | (refine Zn rfl 24 _ rfl b rfl 24 _ (0,0) _ N7.out ZC rfl Xn ?_));refine (HN.out W1).mono ?_;rintro e w2 ⟨v0,u0,rfl,h2⟩;have H2:=Za h2;have VW:=Za (N7.out.below h2 N7.out.lt);clear h2 HN;go_wp2_with (first | (refine Zn rfl 24 _ rfl b rfl 24 _ (0,0) _ VW.out ZC rfl Xn ?_));refine (T8.out w2).mono ?_;rintro e w3 ⟨rfl,b3⟩;have H3:=Za (H2.out.trans (b3.mono H2.out.size));clear b3 H2 VW T8;go_wp2_with fail;refine (HA.out w3).mono ?_;rintro e w4 ⟨rfl,b4⟩;have H4:=Za b4;clear b4;go_wp2_with fail;go_ret;exact ⟨rfl,kx.out▸uM.out.trans ((H3.out.trans (H4.out.mono H3.out.size)).mono (Nat.le_of_lt N7.out.lt))⟩
end
end Go.Proofs.YtianiiijaopdpaaGreat
