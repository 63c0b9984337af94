/- Part 27 of 29: Tik Ops App New PA Snap. -/
import Derived.Test.YtianiiijaopdpaaGreatZy00
import Derived.Test.YtianiiijaopdpaaGreatZy26
namespace Go.Proofs.YtianiiijaopdpaaGreat
set_option linter.unusedVariables false
set_option linter.unusedSimpArgs false
set_option maxRecDepth 100000
set_option maxHeartbeats 8000000
open _root_.And renaming intro → Zh
open _root_.Array renaming all_eq_true_iff_forall_mem → ZT
open _root_.Go.Proofs.YtianiiijaopdpaaGreat.As renaming row → Qf
open _root_.Go.RowKit renaming Below → Zs
open _root_.Go.RowKit.Below renaming refl → Zp
open _root_.Go.Proofs.YtianiiijaopdpaaGreat.Blk renaming new → Zv, setRow → QS
open _root_.Go renaming Calls → Zj, Operand → Yz, Program → YO, TypeId → ZN, Value → Zl, World → Zc, bodyPost_ret → ZL, execOp → Xn, results_cell_row → ZO, setRow_heap → Z6, wpList → YY, wpList_load_row → Zn, wpList_plain → Q6, wpList_store_row → Zo, wpQuiet → ZW, wp_store_row → X9
open _root_.Iff renaming rfl → Vv
open _root_.Go.Instr renaming lookup → J5
open _root_.Go.Proofs.YtianiiijaopdpaaGreat.Kept renaming refl → ZH, setRow → XK
open _root_.Go.Lib renaming hid → Za
open _root_.List renaming getElem?_eq_some_iff → Zi, length_append → ZE, mem_cons → ZY, mem_toArray → UL, not_mem_nil → Yf
open _root_.Nat renaming le_refl → Zg, le_trans → Z9
open _root_.Go.NoPanic renaming normal → Yr
open _root_.Go.Oper renaming wp → Jj
open _root_.Go.Proofs.YtianiiijaopdpaaGreat.Pm renaming row → Jb
open _root_.Go.Result renaming andThen_ok → ZQ
open _root_.Go.Sem renaming run_bind → Yi, run_pure → YC
open _root_.Go.Proofs.Tryz renaming prog → Zb, underlying24 → ZC, underlying3 → Yc, underlying37 → ZV, underlying42 → Yb
open _root_.Go.World renaming setRow_alloc_new → Zu
theorem jm {G:Prop}(h:G:=by show _≤(s.V.set _ _).length; rw [List.length_set]; omega) :G:=h
theorem jl {G:Prop}(h:G:=by unfold rowsX; rw [xput_ne Ze,xput_ne Ze,xput_same]) :G:=h
theorem jh {G:Prop}(h:G:=by rw [xput_ne Ze,xput_ne Ze,xput_ne Ze,xput_ne Ze,xput_same]) :G:=h
theorem Ik {G:Prop}(h:G:=by have:=F4.out.out; rwa [HB.out] at this) :G:=h
theorem Ij {G:Prop}(h:G:=by rw [xput_ne Ze,xput_ne Ze,xput_same]) :G:=h
theorem Ii {G:Prop}(h:G:=by rw [xput_ne Ze,xput_ne Ze,xput_ne Ze,xput_ne Ze,xput_ne Ze,xput_ne Ze,xput_ne Ze,xput_same]) :G:=h
theorem FP {G:Prop}(h:G:=by simp only [opTab,List.mem_cons,true_or,or_true]) :G:=h
theorem MV {G:Prop}(h:G:=by rw [xput_ne Ze,xput_ne Ze,xput_ne Ze,xput_ne Ze,xput_ne Ze,xput_ne Ze,xput_same]) :G:=h
theorem gI {G H:Prop} (k:H) (h:BZ H→G:=by
  intro zk;refine arm_func rfl _ _ rfl (.pointer (some ⟨e,0,none⟩)) rfl ?_;exact zk.out) :G:=h ⟨k⟩
theorem rJ {G H:Prop} (k:H) (h:BZ H→G:=by
  intro zk;refine Jw 24 _ b 24 (Zk c) _ rfl rfl rfl (fun w h=>h) Tryz.underlying24 rfl XG ?_;exact zk.out) :G:=h ⟨k⟩
theorem xV {G H:Prop} (k:H) (h:BZ H→G:=by
  intro zk;refine YJ _ _ ⟨b,1,none⟩ (.int .i64 (c 1)) rfl rfl rfl (fun w h=>by simp [go_sem,h]) (fun w h=>h.cell 1) ?_;exact zk.out) :G:=h ⟨k⟩
theorem gJ {G H:Prop} (k:H) (h:BZ H→G:=by
  intro zk;refine arm_move rfl _ rfl (.pointer (some ⟨e,0,none⟩)) rfl ?_;exact zk.out) :G:=h ⟨k⟩
theorem Zfv {G H:Prop} (k:H) (h:BZ H→G:=by
  intro zk;refine YJ _ _ ⟨q.e,24,none⟩ (.pointer (some ⟨a.n,0,none⟩)) rfl rfl rfl (fun w h=>by simp [go_sem,h]) (fun w h=>h.1.cell 24) ?_;exact zk.out) :G:=h ⟨k⟩
theorem Zfw {G H:Prop} (k:H) (h:BZ H→G:=by
  intro zk;refine YJ _ _ ⟨q.e,21,none⟩ (.pointer (some ⟨a.r,0,none⟩)) rfl rfl rfl (fun w h=>by simp [go_sem,h]) (fun w h=>h.1.cell 21) ?_;exact zk.out) :G:=h ⟨k⟩
theorem Zcu {G:Prop} (h:G:=by
  rw [show (((c 1).toNat:Nat) :Int)=c 1 by omega] at this;refine this.mono fun e w' ⟨he,g1⟩=>?_
  subst g1;refine ⟨_,fun i=>i=w.heap.size,he,ring_new ?_ Ze Ze,fun i hi=>by omega,(Below.refl _ _).alloc (Nat.le_refl _) _⟩;rw [show (((c 1).toNat:Nat) :Int)=c 1 by omega];exact Blk.new _ _ _) :G:=h
theorem Zf4 {G:Prop} (h:G:=by
  have:k=0∨k=1∨k=2∨k=3∨k=4∨k=5∨k=6∨k=7∨k=8∨k=9∨k=10:=by omega
  rcases this with rfl | rfl | rfl | rfl | rfl | rfl | rfl | rfl | rfl | rfl | rfl <;> decide) :G:=h
theorem Zgu {G:Prop} (h:G:=by
  unfold exO
  split
  ·exact h.mg.mono jm fun _ h=>h
  ·exact h.mg) :G:=h
theorem zG {G:Prop} (h:G:=by
  split at e <;> split at e <;>(try split at e)<;>(try split at e)<;> omega) :G:=h
section
open Go Go.RowKit Go.Deep
def SW (r:Rp)(ia:Option Addr)(ca:Nat)(ip:Option Addr)(cp:Nat) :Rc:=⟨r.kd,r.cd,r.ix,r.bl,r.ep,r.dl,ia,r.la.length,ca,ip,r.lp.length,cp,r.vs⟩
def rowsX (Z:Nat→Zc→(Nat→Prop)→Prop)(N:Nat)(r:Rp)(ia:Option Addr)(ca:Nat)(ip:Option Addr)(cp:Nat) :Nat→Zc→(Nat→Prop)→Prop:=
 ZD (ZD Z N (YK 71 3 (.slice ia r.la.length ca) r.la.length (Yl Qf r.la))) (N+1) (YK 61 3 (.slice ip r.lp.length cp) r.lp.length (Yl Jb r.lp))
def na (N:Nat)(w0:DR)(c:Nat→Int)(a:Pl)(q:Ql)(Z:Nat→Zc→(Nat→Prop)→Prop)(x:Rp × Sg)(L:List QT)(e:Ending)(w:Zc) :Prop:=
 ∃ia ca ip cp,e= .returned (.agg (Zw (SW x.1 ia ca ip cp)))∧Eg (N+2) w0 w c a q (rowsX Z N x.1 ia ca ip cp) x.2 L
section
variable {N:Nat} {w0:DR} {w w' w1:Zc} {c cf:Nat→Int} {a:Pl} {q:Ql} {X Z:Nat→Zc→(Nat→Prop)→Prop} {s s':Sg} {L L':List QT} {k:Nat}
theorem Eg.ep (h:Eg N w0 w c a q Z s L)(x:Int) :Eg N w0 w c a q Z { s with ep:=x} L:=h
theorem na.of {x:Rp × Sg}{e:Ending}(h:tS N w0 c a q Z x L e w)(h1:x.1.la=[])(h2:x.1.lp=[]) :na N w0 c a q Z x L e w:=by
 obtain ⟨he,hg⟩:=h;refine ⟨none,0,none,0,?_,?_⟩
 ·rw [he]; unfold rcP SW; rw [h1,h2]; rfl
 ·unfold rowsX; rw [h1,h2];exact (hg.nil 71 3).nil 61 3
theorem Eg.growS {ops:Array Oper}{rest:List Oper}{o:Oper}{d:Act}{Q:Exit→Act→Zc→Prop}(h:Eg N w0 w c a q Z s L){r:Nat}(UP:11≤r)(hr:r < N){e:ZN}{size n:Nat}{v:Zl}{xs:List Zl}(hx:Z r=YK e size v n xs)
  (DV:o.guard=none) (sl x:Yz) (t:ZN) (ho:o.op= .call { callee:= .builtin .append,args:= #[sl,x],argTypes:= #[t,t]}) (i:TypeInfo) (z:Zl) (bytes:Nat) (ht:Tryz.prog.underlying t=some (.slice e)) (hi:Tryz.prog.info? e=some i) (hz:i.zero=some z)
  (Lb:i.size=size) (LJ:i.bytes=bytes) (pI:z.cells.size=size) (Er:0 < size) (hs:d.eval sl=v) {r2:Nat} (h112:11≤r2) (L5:r2 < N) {A:Option Addr} {m cp:Nat} {ys:List Zl} (vC:Z r2=YK e size (.slice A m cp) m ys) (hx':d.eval x= .slice A m cp) (hl:ys.length=m*size) (h1: ∀u ∈ ys,u.oneCell'=true)
  (mN:n+m≤maxLen) (BQ:(n+m)*bytes≤140737488355328)
  (K: ∀v' w',Eg N w0 w' c a q (ZD Z r (YK e size v' (n+m) (xs++ys))) s L→YY Zb ops Q rest (d.put o.dst v') w') :YY Zb ops Q (o::rest) d w:=by
 have ho1:=h.row UP hr hx;have sY:=h.row h112 L5 vC;refine X7 w DV sl x t ho 0 e i z size bytes ht hi hz Lb LJ pI Er v n xs hs ho1 A m cp ys hx' hl (fun h0=>?_) h1 mN BQ (Nat.zero_le _) fun v' w' g1 g2 g4=>?_
 ·rcases sY.2 with ⟨e1,_⟩ | ⟨g1,cp1,cur,e1,_⟩
  ·injection e1 with _ e2 _; omega
  ·injection e1 with e1 _ _;refine ⟨_,e1,fun j u hj=>?_⟩;subst e1;exact sY.cells rfl j u hj
 ·refine K v' w' (h.own UP hr hx stays_row fun S hS=>⟨_,row_zero g1,fun j hj=>?_,Kept.of_grown g2 fun j hj=>(hS.2 j).2 hj.symm⟩);exact Zgq
def tkT (c:Nat→Int)(t:Sg) :Sg:= { t with V:=He c t,P:=t.P+UF (Ks (c 5) t.V (t.pt.take (EH c t))),pt:=t.pt.drop (EH c t)}
theorem Zfl (hc:GE c)(ZaJ:c 0≤100)(hi:Inv c k s) :Wh c (tkT c s):=by
 obtain ⟨g,_,_⟩:=LX hc hi;have hm:0≤c 5:=by have:=hc.m5; omega
 have Um:=FM (c 5) (s.pt.take (EH c s)) s.V;obtain ⟨_,h2⟩:=DH (c 5) hm (s.pt.take (EH c s)) s.V (fun r hr=>hi.ptf r (List.mem_of_mem_take hr)) hi.fits;have h3:=NL (fun p hp=>(h2 p hp).1);have e1:Zz (He c s)=Zz s.V - UF (Ks (c 5) s.V (s.pt.take (EH c s))):=Um;have g1:=hi.sum;have g2:=hi.p0;have g3:=hi.cap;have g4:=hi.len;have g5:=hi.cu;have g6:=hc.a4;have g7:=g.len;refine ⟨g.vok,?_,?_,hi.b0,hi.d1,?_,by omega,?_,?_⟩
 ·show Zz (He c s)+(s.P+_)+s.B=s.D; omega
 ·show 0≤s.P+_; omega
 ·show s.D -(s.P+_) - s.B≤c 4; omega
 ·show s.cu≤100; omega
 ·show (He c s).length≤100; omega
theorem xq (c:Nat→Int)(s:Sg) :(tkP c s).length≤EH c s:=by
 exact ZgE
theorem Zeh (hc:GE c)(hq8:c 8≤18446744073709551615)(ZaJ:c 0≤100)(hi:Inv c k s)(hk:k+1≤1000000)(hr:XO s.ep s.V L)(pw:AV s.V s.mg)(h:Eg N w0 w c a q Z s L)(o:Oq)(ho:o.kd=7) :
  Zj Zb 89 #[.pointer (some ⟨q.e,0,none⟩),.agg (ZM o)] w (na N w0 c a q Z (xp c s) (zf c s L)):=by
 have hN:=h.low;have hO:=DA h o;have bk0:=hi.bk0;have bk1:=hi.bk1;obtain ⟨t,ht⟩ : ∃t,SB c s=t:=⟨_,rfl⟩;obtain ⟨Lt,hLt⟩ : ∃Lt,zf c s L=Lt:=⟨_,rfl⟩;obtain ⟨A,hA⟩ : ∃A,nxO c s=A:=⟨_,rfl⟩;obtain ⟨B,hB⟩ : ∃B,((s.bk+1)%c 13==0)=B:=⟨_,rfl⟩;have HAd:Hid (∀wx M Z,Eg M w0 wx c a q Z s L→Zj Zb 134 #[.pointer (some ⟨q.e,20,none⟩)] wx fun e w'=>e= .returned (.bool B)∧Eg M w0 w' c a q Z { s with bk:=s.bk+1} L):=Za fun wx M Z hx=>by
  have:=oy hx bk0 Ze hc.g.len0;rw [hB] at this;exact this
 have HBd:Hid (B=true→ ∀wx M Z,Eg M w0 wx c a q Z { s with bk:=s.bk+1} L→Zj Zb 135 #[.pointer (some ⟨q.e,0,none⟩)] wx fun e w'=> ∃v,e= .returned v∧Eg (M+1) w0 w' c a q (ZD Z M (YK 71 3 v A.length (Yl Qf A))) t Lt):=Za fun hb wx M Z hx=>by
  rw [hb] at hB;have hm:(s.bk+1)%c 13=0:=by simpa using hB
  have:=kb hc hq8 hi Ze hr hm pw (hx.ep (s.ep+1));rw [←ht,←hLt,←hA];unfold SB zf nxO;rw [if_pos hm,if_pos hm,if_pos hm];exact this
 have HNb:Hid (B=false→t= { s with bk:=s.bk+1}∧Lt=L∧A=[]):=Za fun hb=>by
  rw [hb] at hB;have hm: ¬(s.bk+1)%c 13=0:=by simpa using hB
  rw [←ht,←hLt,←hA];unfold SB zf nxO;rw [if_neg hm,if_neg hm,if_neg hm];exact ⟨rfl,rfl,rfl⟩
 have yN:Inv c (k+1) t:=by rw [←ht]; exact SC hc hi Ze
 have hF:Hid (xp c s=(⟨7,0,-1,t.bk,t.ep,-1,A,TU c t,(EH c t:Nat)+(mw c t:Nat)⟩,Ia c t)):=Za (by unfold xp; rw [ht,hA]);have HPt:Hid (∀wx M Z,Eg M w0 wx c a q Z t Lt→Zj Zb 136 #[.pointer (some ⟨q.e,0,none⟩)] wx fun e w'=> ∃v,e= .returned (.tuple #[v,.int .i64 ((EH c t:Nat) :Int)])∧Eg (M+1) w0 w' c a q (ZD Z M (YK 61 3 v (tkP c t).length (Yl Jb (tkP c t)))) (tkT c t) Lt):=Za fun wx M Z hx=>ZaB hc yN hx
 have HPw:Hid (∀wx M Z,Eg M w0 wx c a q Z (tkT c t) Lt→Zj Zb 137 #[.pointer (some ⟨q.e,0,none⟩),.int .i64 (c 14 -(EH c t:Nat)),.int .i64 (c 15 -((tkP c t).length:Nat))] wx fun e w'=> ∃v,e= .returned (.tuple #[v,.int .i64 ((mw c t:Nat) :Int)])∧Eg (M+1) w0 w' c a q (ZD Z M (YK 61 3 v (Qi t.ep (He c t) (AA c t)).length (Yl Jb (Qi t.ep (He c t) (AA c t))))) (Ia c t) Lt):=Za fun wx M Z hx=>by
  obtain ⟨_,hn,hrp⟩:=LX hc yN;have htm:=yN.tm hc hk;have:=uS (s:=tkT c t) hx ⟨htm.b0,htm.b1,htm.l,htm.q⟩ (Zfl hc ZaJ yN) (vs:=c 14 -(EH c t:Nat)) (p:=c 15 -((tkP c t).length:Nat)) rfl (F:=AA c t) rfl hn hrp;refine this.mono fun e w' ⟨v,he,h1⟩=>⟨v,he,?_⟩
  rw [Sd];have e2:Ia c t= { tkT c t with V:=Jl t.ep (He c t) (AA c t),P:=t.P+UF (Ks (c 5) t.V (t.pt.take (EH c t)))+Vk (Qi t.ep (He c t) (AA c t)),cu:=DN (He c t).length t.cu (mw c t)}:=by
   unfold Ia tkT TU;rw [Ls];unfold tkP;rw [ja,←Int.add_assoc]
  rw [e2];exact h1
 obtain ⟨n,hn⟩ : ∃n,EH c t=n:=⟨_,rfl⟩;obtain ⟨m,hm⟩ : ∃m,mw c t=m:=⟨_,rfl⟩;obtain ⟨P,hP⟩ : ∃P,tkP c t=P:=⟨_,rfl⟩;obtain ⟨W,hW⟩ : ∃W,Qi t.ep (He c t) (AA c t)=W:=⟨_,rfl⟩;have hFF:TU c t=P++W:=by unfold TU; rw [hP,hW]
 have Ze6:=AB hc t;have hPl:=xq c t;rw [hFF] at hF;rw [hn,hm] at hF;rw [hn] at HPt HPw;rw [hP] at HPt HPw;rw [hm,hW] at HPw;rw [hn,hm,hFF,ZE] at Ze6;rw [hP,hn] at hPl;have hg:=hc.g;have g1:=hg.part;have g2:=hg.vis0;have g3:=hg.pay0;have g4:=hg.vis1;have g5:=hg.pay1;have hn4:n≤4096:=by omega
 have Zep:P.length≤4096:=by omega
 have hn16:(n:Int)≤c 16:=by rw [←hn]; unfold EH UE; omega
 have PK:0≤c 14 -(n:Int)∧c 14 -(n:Int)≤4096:=by omega
 have Np:0≤c 15 -(P.length:Int)∧c 15 -(P.length:Int)≤4096:=by omega
 have hmm:(n:Int)+(m:Nat)≤4096:=by omega
 have hWl:W.length≤4096:=by omega
 have htm:=yN.tm hc hk;have HN:=Za hN;have HLt:=Za hLt;have HX:=Za (Zh ho (Zh htm (Zh PK (Zh Np (Zh hmm (Zh hWl (Zh Zep hn4)))))));have x14: ∀w M Z,Eg M w0 w c a q Z t Lt→True:=fun _ _ _ _=>trivial
 clear hc hq8 ZaJ hi hk hr pw h ho hN bk0 bk1 hLt hA yN hn hm hP hW hFF Ze6 hPl hg g1 g2 g3 g4 g5 hn16 PK Np hmm hWl htm x14 ht hB hn4 Zep;go_enter Tryz.func89,Tryz.ntmps89;go_upto_region 1 with (fail);generalize hW:(w.alloc (.cells (ZM o) 37)).alloc (.cells _ 42)=V0;have eW:(w.alloc (.cells (ZM o) 37)).alloc (.cells (Zw Gg) 42)=V0:=hW;rw [eW] at hO;generalize w.heap.size=b at*;have HO:=Za hO;clear hW eW hO;go_wp2_with fail;refine (HAd.out _ _ _ HO.out).mono ?_;rintro e w2 ⟨rfl,h2⟩;have E2:=Za h2;clear h2 HO HAd;go_upto_if 14 with (fail);go_cut [5] from 15 to 16 (fun s5 wx=> ∃(ia:Option Addr) (ca:Nat),s5= .slice ia A.length ca∧Hid (Eg (N+2+1) w0 wx c a q (ZD (ZD (ZD Z N (YW b 37 (ZM o))) (N+1) (YW (b+1) 42 (Zw Gg))) (N+2) (YK 71 3 (.slice ia A.length ca) A.length (Yl Qf A))) t Lt))
 case first=>
  cases B
  ·obtain ⟨e1,e2,e3⟩:=HNb.out rfl;have E3:Hid (Eg (N+2+1) w0 w2 c a q (ZD (ZD (ZD Z N (YW b 37 (ZM o))) (N+1) (YW (b+1) 42 (Zw Gg))) (N+2) (YK 71 3 (.slice none A.length 0) A.length (Yl Qf A))) t Lt):=Za (by
    rw [e1,e2,e3];exact E2.out.nil 71 3)
   have e4:Hid (A.length=0):=Za (by rw [e3]; rfl);clear HBd HNb E2 hF HPt HPw HX e1 e2 e3;go_wp2_with fail;go_meet;exact ⟨none,0,by rw [e4.out],E3⟩
  ·have HB:=Za (HBd.out rfl _ _ _ E2.out);clear HBd HNb E2 hF HPt HPw HX;go_wp2_with fail;refine HB.out.mono ?_;rintro e w3 ⟨v,rfl,h3⟩;obtain ⟨ia,ca,rfl⟩:=XC (h3.row (r:=N+2) ZJ Ze xput_same);have E3:=Za h3;clear h3 HB;go_wp2_with fail;go_meet;exact ⟨ia,ca,rfl,E3⟩
 case rest=>
  obtain ⟨ia,ca,rfl,E3⟩:=hcut;clear HBd HNb E2;generalize wc=w3 at*;go_wp2_with fail;refine (HPt.out _ _ _ E3.out).mono ?_;rintro e w4 ⟨v,rfl,h4⟩;obtain ⟨ip,cp,rfl⟩:=XC (h4.row (r:=N+2+1) ZJ Ze xput_same);have E4:=Za h4;clear h4 HPt E3;go_wp2_with fail;refine Pu (fun w'=>Blk w' q.e 107 (Uw c a q)) 6 [0,1,2,3,4,5,6,7,8,9,10,11,12,13,14,15] (?_) ?_
  ·exact E4.out.drew.blk
  refine Kg ?_;show ZW _ _ _ _ [_,_,_,_,_,_,_,_,_,_,_,_,_,_,_,_] _;refine TJ ?_;refine YJ _ _ ⟨q.e,14,none⟩ (.int .i64 (c 14)) rfl rfl rfl (fun w h=>by simp [go_sem,h]) (fun w h=>h.cell 14) ?_;refine Qe ?_;refine GN ?_;refine GN ?_;refine BN ?_;refine YJ _ _ ⟨q.e,15,none⟩ (.int .i64 (c 15)) rfl rfl rfl (fun w h=>by simp [go_sem,h]) (fun w h=>h.cell 15) ?_;refine Qe ?_;refine DP ?_;refine Qc ?_;have E5:=Za E4.out.drew;clear E4;generalize w4.drew=w5 at*;rw [IntWalk.wrap64_in (c 14 -(n:Int)) (by have:=HX.out.2.2.1; omega),IntWalk.wrap64_in (c 15 -(P.length:Int)) (by have:=HX.out.2.2.2.1; omega)];refine hfO (i:=16) ?_;refine JZ #[.pointer (some ⟨q.e,0,none⟩),.int .i64 (c 14 -(n:Int)),.int .i64 (c 15 -(P.length:Int))] Tryz.call137 ((HPw.out _ _ _ E5.out).mono ?_);rintro e w6 ⟨v,rfl,h6⟩;obtain ⟨iw,cw,rfl⟩:=XC (h6.row (r:=N+2+1+1) ZJ Ze xput_same);have E6:=Za h6;have hB6:=h6.blk;refine ⟨_,rfl,hB6,?_⟩;clear h6 HPw E5;refine JG ?_;refine FX (fun w'=>Blk w' q.e 107 (Uw c a q)) (m:=5) (f:=0) [17,18,19,20,21] (?_) ?_
  ·exact hB6
  refine Kg ?_;refine NX ?_;refine TJ ?_;refine Qc ?_;clear hB6;refine ⟨by kernel_rfl,Yr ?_⟩;refine JG ?_;have VJ:=Za (E6.out.blkAt (r:=N) HN.out Ze jh);go_wp2_with (first | (refine Zn rfl 37 _ rfl b rfl 37 _ (0,0) _ VJ.out ZV rfl QL ?_));refine (DT E6.out (s:=Ia c t) ⟨HX.out.2.1.b0,HX.out.2.1.b1,HX.out.2.1.l,HX.out.2.1.q⟩ o (-1) (-1)).mono ?_;rintro e w7 ⟨he,h7⟩;rw [show Bo o.kd (-1) (-1) (Ia c t).bk (Ia c t).ep=Bo 7 (-1) (-1) t.bk t.ep by rw [HX.out.1]; rfl] at he;subst he;have E7:=Za (h7.box (Zw (Bo 7 (-1) (-1) t.bk t.ep)) 42);clear h7 VJ E6;go_upto_region 7 with (first | (refine Zo rfl _ _ _ rfl w7.heap.size (Zw (Bo 7 (-1) (-1) t.bk t.ep)) rfl rfl 42 _ (heap_alloc_new w7 _) YS rfl (YH _) ?_; rw [Zu]));generalize w7.heap.size=z at*;generalize w7.alloc (.cells (Zw (Bo 7 (-1) (-1) t.bk t.ep)) 42)=W7 at*;have hB:=E7.out.blkAt (r:=N+2+1+1+1) ZJ Ze xput_same;have hc6:W7.cell? ⟨z,6,none⟩=some (.slice none 0 0):=hB.cell 6;have hf6:W7.frozen? ⟨z,6,none⟩=false:=hB.frozen 6;have h8:=E7.out.setc (r:=N+2+1+1+1) ZJ Ze xput_same 6 (.slice ia A.length ca);rw [Xk,show (Zw (Bo 7 (-1) (-1) t.bk t.ep)).setIfInBounds 6 (.slice ia A.length ca)=Zw ⟨7,0,-1,t.bk,t.ep,-1,ia,A.length,ca,none,0,0,0⟩ from rfl] at h8;have E8:=Za h8;clear hB h8 E7;go_upto_region 8 with (fail);generalize W7.setCell ⟨z,6,none⟩ (.slice ia A.length ca)=W8 at*;clear hc6 hf6;obtain ⟨j0,aI,BM,Wd,pb⟩:=gT;have hl1:(Yl Jb W).length=W.length*3:=UO Pm.row_len W;have pq: ∀u ∈ Yl Jb W,u.oneCell'=true:=fun u hu=>by
   obtain ⟨x,_,hx⟩:=List.mem_flatMap.1 hu;exact Pm.row_one x u hx
  have HL:=Za (Zh hl1 pq);clear hl1 pq;go_upto_region 9 with (at_builtin; go_loud (refine Eg.growS E8.out (r:=N+2+1) (e:=61) (size:=3) (v:= .slice ip P.length cp) (n:=P.length) (xs:=Yl Jb P) (A:=iw) (m:=W.length) (cp:=cw) (ys:=Yl Jb W) ZJ Ze Ij rfl _ _ 40 rfl j0 _ 24 Tryz.underlying40 aI BM Wd pb (Fu _) YU rfl (r2:=N+2+1+1) ZJ Ze Ug rfl HL.out.1 HL.out.2 ?c2 ?c3 ?_))
  case c2=>unfold maxLen; have:=HX.out.2.2.2.2.2.1; exact jE
  case c3=>have:=HX.out.2.2.2.2.2.1; exact jE
  obtain ⟨F,hF9⟩ : ∃F,P++W=F:=⟨_,rfl⟩;rw [hF9] at hF;intro v9 w9 h9;have hPW:P.length+W.length=F.length:=by rw [←hF9,ZE]
  rw [←JP,hF9,hPW] at h9;obtain ⟨i9,c9,rfl⟩:=XC (h9.row (r:=N+2+1) ZJ Ze xput_same);have hB:=h9.blkAt (r:=N+2+1+1+1) ZJ Ze Ug;have hc7:w9.cell? ⟨z,7,none⟩=some (.slice none 0 0):=hB.cell 7;have hf7:w9.frozen? ⟨z,7,none⟩=false:=hB.frozen 7;have TQ:=h9.setc (r:=N+2+1+1+1) ZJ Ze Ug 7 (.slice i9 F.length c9);rw [show (Zw ⟨7,0,-1,t.bk,t.ep,-1,ia,A.length,ca,none,0,0,0⟩).setIfInBounds 7 (.slice i9 F.length c9)=Zw ⟨7,0,-1,t.bk,t.ep,-1,ia,A.length,ca,i9,F.length,c9,0⟩ from rfl] at TQ;have E10:=Za TQ;clear hB h9 E8 TQ hPW hF9 HL;go_upto_region 9 with (fail);generalize w9.setCell ⟨z,7,none⟩ (.slice i9 F.length c9)=W10 at*;clear hc7 hf7;have hB:=E10.out.blkAt (r:=N+2+1+1+1) ZJ Ze xput_same;have hc8:W10.cell? ⟨z,8,none⟩=some (.int .i64 0):=hB.cell 8;have hf8:W10.frozen? ⟨z,8,none⟩=false:=hB.frozen 8;have UP:=E10.out.setc (r:=N+2+1+1+1) ZJ Ze xput_same 8 (.int .i64 ((n:Int)+(m:Int)));rw [Xk,show (Zw ⟨7,0,-1,t.bk,t.ep,-1,ia,A.length,ca,i9,F.length,c9,0⟩).setIfInBounds 8 (.int .i64 ((n:Int)+(m:Int)))=Zw ⟨7,0,-1,t.bk,t.ep,-1,ia,A.length,ca,i9,F.length,c9,(n:Int)+(m:Int)⟩ from rfl] at UP;have tE:=Za UP;clear hB UP E10;have iC:(n:Int)+(m:Int)≤4096:=HX.out.2.2.2.2.1;go_upto_region 10 with (fail);generalize W10.setCell ⟨z,8,none⟩ (.int .i64 ((n:Int)+(m:Int)))=W11 at*;clear hc8 hf8 iC;obtain ⟨R,hR⟩ : ∃R:Rc,(⟨7,0,-1,t.bk,t.ep,-1,ia,A.length,ca,i9,F.length,c9,(n:Int)+(m:Int)⟩ :Rc)=R:=⟨_,rfl⟩;have HR:=Za hR;rw [hR] at tE;clear hR;have HBz:=Za (tE.out.blkAt (r:=N+2+1+1+1) ZJ Ze xput_same);have VG:=Za (tE.out.blkAt (r:=N+1) ZJ Ze MV);go_wp2_with (first | (refine Zn rfl 42 _ rfl z rfl 42 _ (0,0) _ HBz.out Yb rfl YS ?_) | (refine Zo rfl _ _ _ rfl (b+1) (Zw R) rfl rfl 42 _ VG.out YS rfl (YH _) ?_));refine ZL (v:= .agg (Zw R)) (ZO (fn:=Tryz.f89) rfl _ _ (b+1) 42 _ (0,0) _ rfl (Z6 _ _ _ _ _ _ VG.out) Yb rfl YS) rfl ?_;rw [hF.out,HLt.out];refine ⟨ia,ca,i9,c9,by rw [←HR.out]; rfl,?_⟩;have TR:=tE.out.setr (r:=N+1) ZJ Ze MV (cs':=Zw R) (QS VG.out _) (XK (S:=fun i=>i=b+1) (ZH _ _) (.inl rfl) _);have hN:=HN.out;refine TR.remap Ze (fun k=>if k=N then N+2 else if k=N+1 then N+2+1 else k) (fun k hk=>?_) (fun k hk=>?_) (fun k hk=>?_) (fun i j hi hj e=>?_) fun k h1 h2=>?_
  ·exact jA
  ·exact AO
  ·exact AO
  ·exact zG
  ·unfold rowsX
   by_cases P7:k=N+1
   ·subst P7;rw [xput_same,if_neg Ze,if_pos rfl,xput_ne Ze,xput_ne Ze,xput_same]
   ·rw [xput_ne P7]
    by_cases aL:k=N
    ·subst aL;rw [xput_same,if_pos rfl,xput_ne Ze,xput_ne Ze,xput_ne Ze,xput_ne Ze,xput_ne Ze,xput_ne Ze,xput_same]
    ·rw [xput_ne aL,if_neg aL,if_neg P7];rw [xput_ne Ze,xput_ne Ze,xput_ne Ze,xput_ne Ze,xput_ne Ze,xput_ne Ze,xput_ne Ze,xput_ne Ze,xput_ne Ze]
end
end
section
open Go Go.RowKit Go.Deep Go.Maps
section
variable {P:YO} {ops:Array Oper} {rest:List Oper} {o:Oper} {a:Act} {w:Zc} {Q:Exit→Act→Zc→Prop}
theorem TD (DV:o.guard=none)(t:ZN)(ho:o.op= .makeMap t none)(h:YY P ops Q rest (a.put o.dst (.map (some w.heap.size))) (w.alloc (.map #[] 0))) :YY P ops Q (o::rest) a w:=
 Q6 DV fun _ hK=>TG t ho (hK _ _ h)
theorem arm_move (DV:o.guard=none)(x:Yz)(ho:o.op= .move x)(v:Zl)(hv:a.eval x=v)(h:YY P ops Q rest (a.put o.dst v) w) :YY P ops Q (o::rest) a w:=
 Q6 DV fun _ hK=>by
  unfold Jj Xn;simp only [ho,hv,YC];exact hK _ _ h
theorem dt (DV:o.guard=none)(x:Yz)(ho:o.op= .assign x)(v:Zl)(hv:a.eval x=v)(h:YY P ops Q rest (a.put o.dst v) w) :YY P ops Q (o::rest) a w:=
 Q6 DV fun _ hK=>by
  unfold Jj Xn;simp only [ho,hv,YC];exact hK _ _ h
theorem arm_func (DV:o.guard=none)(f:FuncId)(x:Yz)(ho:o.op= .makeFunc (.func f) #[x] #[])(v:Zl)(hv:a.eval x=v)(h:YY P ops Q rest (a.put o.dst (.func (.func f) #[v] #[])) w) :YY P ops Q (o::rest) a w:=
 Q6 DV fun _ hK=>by
  unfold Jj Xn;simp [ho,hv,Instr.makeFunc];exact hK _ _ h
end
def tP (M:List (Zl × Zl))(k:Int) :Prop:= ∀p ∈ M,∃i:Int,p.1= .int .i64 i∧(Lit.int .i64 i).wf=true∧i≠k
section
variable {w0 w w':Zc} {b:Nat} {M:List (Zl × Zl)} {ops:Array Oper} {rest:List Oper} {o:Oper} {c:Act} {Q:Exit→Act→Zc→Prop}
theorem Dq (hT:Jn w b M)(hB:Zs w0.heap.size w0 w)(h0:w0.heap.size≤b)(DV:o.guard=none)(hd:o.dst=none)(m x v:Yz)(k:Int)(u:Zl)(ho:o.op= .insert 118 m x v)(hm:c.eval m= .map (some b))(hx:c.eval x= .int .i64 k)(hv:c.eval v=u)(hk:(Lit.int .i64 k).wf=true)(hM:tP M k)
  (K: ∀w',Jn w' b ((.int .i64 k,u)::M)→Zs w0.heap.size w0 w'→YY Zb ops Q rest c w') :YY Zb ops Q (o::rest) c w:=
 Q6 DV fun _ hK=>by
  refine AJ hT (int_keyed Yc) m x v ho hd _ _ hm hx hv Tryz.underlying118 (fun p hp=>?_) (keyOf_int_mk Yc hk) (fun p hp e=>?_) (fun w' hT' hg=>hK _ _ (K w' hT' ?_))
  ·obtain ⟨i,e1,e2,_⟩:=hM p hp;exact ⟨_,by rw [e1]; exact keyOf_int_mk Yc e2⟩
  ·obtain ⟨i,e1,_,e2⟩:=hM p hp;rw [e1] at e;injection e with _ e;exact e2 e
  ·exact hB.grown hg hB.size (fun i hi=>by injection hi with hi; omega)
end
def opTab (e:Nat) :List (Zl × Zl):= [(.int .i64 7,.func (.func 89) #[.pointer (some ⟨e,0,none⟩)] #[]),(.int .i64 6,.func (.func 88) #[.pointer (some ⟨e,0,none⟩)] #[]),(.int .i64 5,.func (.func 87) #[.pointer (some ⟨e,0,none⟩)] #[]),(.int .i64 4,.func (.func 86) #[.pointer (some ⟨e,0,none⟩)] #[]),(.int .i64 3,.func (.func 85) #[.pointer (some ⟨e,0,none⟩)] #[]),(.int .i64 2,.func (.func 84) #[.pointer (some ⟨e,0,none⟩)] #[]),(.int .i64 1,.func (.func 83) #[.pointer (some ⟨e,0,none⟩)] #[])]
theorem Zil (w:Zc)(e:Nat) :Zj Zb 38 #[.pointer (some ⟨e,0,none⟩)] w fun r w'=> ∃b,r= .returned (.map (some b))∧Jn w' b (opTab e)∧w.heap.size≤b∧Zs w.heap.size w w':=by
 have T0:=Ts w;have B0:Zs w.heap.size w (w.alloc (.map #[] 0)):=(Zp _ _).alloc (Zg _) _;have Wc:w.heap.size≤w.heap.size:=Zg _;go_enter Tryz.func38,Tryz.ntmps38;go_upto_region 1 with (fail);refine Go.wp_region_list ?_;refine TD rfl 118 rfl ?_;generalize hb:w.heap.size=b at T0 Wc ⊢;rw [←hb] at Wc;generalize w.alloc (.map #[] 0)=w1 at*;refine Qe ?_;refine gJ ?_;refine Qe ?_;refine gI ?_;refine Qe ?_;refine Dq T0 B0 Ze rfl rfl _ _ _ 1 (.func (.func 83) #[(.pointer (some ⟨e,0,none⟩))] #[]) rfl rfl rfl rfl YU (fun p hp=>by cases hp) ?_;intro w2 T1 B1;clear T0 B0;refine gJ ?_;refine Qe ?_;refine gI ?_;refine Qe ?_;refine Dq T1 B1 Ze rfl rfl _ _ _ 2 (.func (.func 84) #[(.pointer (some ⟨e,0,none⟩))] #[]) rfl rfl rfl rfl YU (fun p hp=>by simp only [ZY,Yf,or_false] at hp; rcases hp with rfl <;> exact ⟨_,rfl,by decide,by decide⟩) ?_;intro w3 T2 B2;clear T1 B1;refine gJ ?_;refine Qe ?_;refine gI ?_;refine Qe ?_;refine Dq T2 B2 Ze rfl rfl _ _ _ 3 (.func (.func 85) #[(.pointer (some ⟨e,0,none⟩))] #[]) rfl rfl rfl rfl YU (fun p hp=>by simp only [ZY,Yf,or_false] at hp; rcases hp with rfl | rfl <;> exact ⟨_,rfl,by decide,by decide⟩) ?_;intro w4 T3 B3;clear T2 B2;refine gJ ?_;refine Qe ?_;refine gI ?_;refine Qe ?_;refine Dq T3 B3 Ze rfl rfl _ _ _ 4 (.func (.func 86) #[(.pointer (some ⟨e,0,none⟩))] #[]) rfl rfl rfl rfl YU (fun p hp=>by simp only [ZY,Yf,or_false] at hp; rcases hp with rfl | rfl | rfl <;> exact ⟨_,rfl,by decide,by decide⟩) ?_;intro w5 T4 B4;clear T3 B3;refine gJ ?_;refine Qe ?_;refine gI ?_;refine Qe ?_;refine Dq T4 B4 Ze rfl rfl _ _ _ 5 (.func (.func 87) #[(.pointer (some ⟨e,0,none⟩))] #[]) rfl rfl rfl rfl YU (fun p hp=>by simp only [ZY,Yf,or_false] at hp; rcases hp with rfl | rfl | rfl | rfl <;> exact ⟨_,rfl,by decide,by decide⟩) ?_;intro w6 T5 B5;clear T4 B4;refine gJ ?_;refine Qe ?_;refine gI ?_;refine Qe ?_;refine Dq T5 B5 Ze rfl rfl _ _ _ 6 (.func (.func 88) #[(.pointer (some ⟨e,0,none⟩))] #[]) rfl rfl rfl rfl YU (fun p hp=>by simp only [ZY,Yf,or_false] at hp; rcases hp with rfl | rfl | rfl | rfl | rfl <;> exact ⟨_,rfl,by decide,by decide⟩) ?_;intro w7 T6 B6;clear T5 B5;refine gJ ?_;refine Qe ?_;refine gI ?_;refine Qe ?_;refine Dq T6 B6 Ze rfl rfl _ _ _ 7 (.func (.func 89) #[(.pointer (some ⟨e,0,none⟩))] #[]) rfl rfl rfl rfl YU (fun p hp=>by simp only [ZY,Yf,or_false] at hp; rcases hp with rfl | rfl | rfl | rfl | rfl | rfl <;> exact ⟨_,rfl,by decide,by decide⟩) ?_;intro w8 T7 B7;clear T6 B6;refine arm_move rfl _ rfl (.map (some b)) rfl ?_;refine Qe ?_;refine dt rfl _ rfl (.map (some b)) rfl ?_;refine Qe ?_;refine wpList_nil ?_;have H7:=Za (Zh T7 (Zh Wc B7));clear T7 B7;go_wp2_with fail;go_ret;exact ⟨b,rfl,H7.out.1,by rw [←hb]; exact H7.out.2.1,H7.out.2.2⟩
end
section
open Go Go.RowKit Go.Deep Go.Maps
theorem NU {o:Oper}{a:Act}{w:Zc}{K:Act→Zc→Prop}{Q:Exit→Act→Zc→Prop}{t:ZN}{m x:Yz}{ok:Bool}(ho:o.op= .lookup t m x ok)(mv xv v:Zl)(hm:a.eval m=mv)(hx:a.eval x=xv)(hr:(J5 t mv xv ok).run Zb w= .ok v w)
  (h:K (a.put o.dst v) w) :o.wp Zb a w K Q:=by
 unfold Jj Xn;simp only [ho,hm,hx,Yi,hr,ZQ,YC];exact h
structure N5 (c:Nat→Int)(k:Nat)(s:Sg)(L:List QT) :Prop where
 ge:GE c
 q8:c 8≤18446744073709551615
 hund:c 0≤100
 inv:Inv c k s
 ring:XO s.ep s.V L
 mg:AV s.V s.mg
theorem AV.mono {V W:List Yd}{mg mg':List (Int × Int)}(h:AV V mg)(hl:V.length≤W.length)(hm: ∀p ∈ mg',p ∈ mg) :AV W mg':=fun p hp=>by
 obtain ⟨i,j,e,h1,h2⟩:=h p (hm p hp);exact ⟨i,j,e,by omega,by omega⟩
section
variable {N:Nat} {w0:DR} {w w' w1:Zc} {c cf:Nat→Int} {a:Pl} {q:Ql} {X Z:Nat→Zc→(Nat→Prop)→Prop} {s s':Sg} {L L':List QT} {k:Nat}
theorem Zff (h:N5 c k s L)(hk:k≤1000000)(o:Oq) :AV (opO c s o).2.V (opO c s o).2.mg:=by
 unfold opO
 by_cases h1:o.kd=1
 ·rw [if_pos h1]; unfold Fw; split
  ·exact h.mg.mono (by show _≤(s.V++_).length; rw [ZE]; omega) fun _ h=>h
  ·exact h.mg
 rw [if_neg h1]
 by_cases h2:o.kd=2
 ·rw [if_pos h2]; exact Zgu
 rw [if_neg h2]
 by_cases h3:o.kd=3
 ·rw [if_pos h3]; exact Zgu
 rw [if_neg h3]
 by_cases h4:o.kd=4
 ·rw [if_pos h4]; unfold Wp; split
  ·exact h.mg.mono jm fun _ h=>h
  ·exact h.mg
 rw [if_neg h4]
 by_cases h5:o.kd=5
 ·rw [if_pos h5]; unfold cT; split
  ·rename_i h0
   intro p hp
   rcases List.mem_append.1 hp with hp | hp
   ·exact h.mg p hp
   ·rw [List.mem_singleton] at hp;subst hp;have h0':DO s.V (o.ix,o.tg) (c 6)=0:=by
     unfold sO at h0
     split at h0
     ·omega
     ·rename_i h; exact Classical.not_not.1 h
    obtain ⟨i,j,sv,dv,e,_,hi,hj,_⟩:=fF h0';exact ⟨i,j,e,(Zi.1 hi).1,(Zi.1 hj).1⟩
  ·exact h.mg
 rw [if_neg h5]
 by_cases h6:o.kd=6
 ·rw [if_pos h6]; unfold cZ; split
  ·exact h.mg
  ·exact h.mg
 rw [if_neg h6]
 split
 ·have hi:=SC h.ge h.inv hk;obtain ⟨g,hn,hr⟩:=LX h.ge hi;obtain ⟨f1,_⟩:=EP (AA c (SB c s)) (He c (SB c s)) g.vok hn hr;have e1:(Ia c (SB c s)).V.length=(SB c s).V.length:=(f1.len).trans g.len;have e2:AV (SB c s).V (SB c s).mg:=by
   unfold SB
   split
   ·have b:=nP h.ge h.inv hk;refine h.mg.mono ?_ fun p hp=>List.mem_of_mem_drop hp
    show s.V.length≤(Ki (c 6) (jT c (Qb s)) (s.mg.take (BJ c s.mg))).length;rw [OC,b.l3];exact Zg _
   ·exact h.mg
  exact e2.mono (by rw [show (xp c s).2.V=(Ia c (SB c s)).V from rfl,e1]; exact Zg _) fun _ h=>h
 ·exact h.mg
theorem N5.op (h:N5 c k s L)(hk:k≤1000000)(o:Oq)(ho:Kk o) :N5 c (k+1) (opO c s o).2 (Gn c s L o):=
 ⟨h.ge,h.q8,h.hund,ZbP h.ge h.inv hk o ho,wQ h.ge h.inv hk h.ring o,Zff h hk o⟩
def yj (c:Nat→Int)(q:Ql)(s:Sg)(L:List QT)(o:Oq)(F:FuncId) :Prop:=
 (∀args w,(callFunc F args).run Zb w= .ok (.enter F args) w)∧ ∀N w0 w a Z,Eg N w0 w c a q Z s L→Zj Zb F #[.pointer (some ⟨q.e,0,none⟩),.agg (ZM o)] w (na N w0 c a q Z (opO c s o) (Gn c s L o))
theorem LG {w:Zc}{F:FuncId}{vs:Array Zl}{x y:Rp × Sg}{L L':List QT}(h:Zj Zb F vs w (tS N w0 c a q Z x L))(hx:x=y)(hL:L=L')(h1:x.1.la=[])(h2:x.1.lp=[]) :Zj Zb F vs w (na N w0 c a q Z y L'):=by
 subst hx; subst hL;exact h.mono fun e w' h=>na.of h h1 h2
theorem ZiI (h:N5 c k s L)(hk:k+1≤1000000)(o:Oq)(ho:Kk o) :(o.kd=1→yj c q s L o 83)∧(o.kd=2→yj c q s L o 84)∧(o.kd=3→yj c q s L o 85)∧(o.kd=4→yj c q s L o 86)∧(o.kd=5→yj c q s L o 87)∧(o.kd=6→yj c q s L o 88)∧(o.kd=7→yj c q s L o 89):=by
 have hr:o.kd≠7→o.kd≠4→Gn c s L o=L:=fun h7 h4=>by unfold Gn; rw [if_neg h7,if_neg (fun h=>h4 h.1)]
 have aK:k≤1000000:=by omega
 have hL:L.length≤100000:=by
  rw [h.ring.len];have:=Ic s.V;have:=h.inv.len;have:=h.hund;omega
 refine ⟨fun e=>?_,fun e=>?_,fun e=>?_,fun e=>?_,fun e=>?_,fun e=>?_,fun e=>?_⟩
 ·refine ⟨Tryz.call83,fun N w0 w a Z hx=>LG (oz h.ge h.inv aK hx o ho) (by unfold opO; rw [if_pos e]) (hr Ze Ze).symm ?_ ?_⟩
  ·unfold Fw; split <;> rfl
  ·unfold Fw; split <;> rfl
 ·refine ⟨Tryz.call84,fun N w0 w a Z hx=>LG (Zea h.ge h.inv aK hx o ho) (by unfold opO; rw [if_neg Ze,if_pos e]) (hr Ze Ze).symm ?_ ?_⟩
  ·unfold exO; split <;> rfl
  ·unfold exO; split <;> rfl
 ·refine ⟨Tryz.call85,fun N w0 w a Z hx=>LG (Zax h.ge h.inv aK hx o ho) (by unfold opO; rw [if_neg Ze,if_neg Ze,if_pos e]) (hr Ze Ze).symm ?_ ?_⟩
  ·unfold exO; split <;> rfl
  ·unfold exO; split <;> rfl
 ·have e2:cm c s o L=Gn c s L o:=by
   unfold Gn cm
   by_cases h0:Iz c s o.ix=0
   ·rw [if_pos h0,if_neg Ze,if_pos ⟨e,h0⟩]
   ·rw [if_neg h0,if_neg Ze,if_neg (fun h=>h0 h.2)]
  refine ⟨Tryz.call86,fun N w0 w a Z hx=>LG (ZaD h.ge h.inv aK hx o ho hL) (by unfold opO; rw [if_neg Ze,if_neg Ze,if_neg Ze,if_pos e]) e2 ?_ ?_⟩
  ·unfold Wp; split <;> rfl
  ·unfold Wp; split <;> rfl
 ·refine ⟨Tryz.call87,fun N w0 w a Z hx=>LG (Cj h.ge h.inv aK hx o ho) (by unfold opO; rw [if_neg Ze,if_neg Ze,if_neg Ze,if_neg Ze,if_pos e]) (hr Ze Ze).symm ?_ ?_⟩
  ·unfold cT; split <;> rfl
  ·unfold cT; split <;> rfl
 ·refine ⟨Tryz.call88,fun N w0 w a Z hx=>LG (kA h.ge h.inv aK hx o ho) (by unfold opO; rw [if_neg Ze,if_neg Ze,if_neg Ze,if_neg Ze,if_neg Ze,if_pos e]) (hr Ze Ze).symm ?_ ?_⟩
  ·unfold cZ; split <;> rfl
  ·unfold cZ; split <;> rfl
 ·refine ⟨Tryz.call89,fun N w0 w a Z hx=>?_⟩;have:=Zeh h.ge h.q8 h.hund h.inv hk h.ring h.mg hx o e;rw [show opO c s o=xp c s by unfold opO; rw [if_neg Ze,if_neg Ze,if_neg Ze,if_neg Ze,if_neg Ze,if_neg Ze,if_pos e],show Gn c s L o=zf c s L by unfold Gn; rw [if_pos e]];exact this
theorem rm (e:Nat) : ∀p ∈ opTab e,∃l,keyOf Zb 3 p.1=some l:=by
 intro p hp;simp only [opTab,ZY,Yf,or_false] at hp
 rcases hp with rfl | rfl | rfl | rfl | rfl | rfl | rfl <;> exact ⟨_,keyOf_int_mk Yc YU⟩
theorem ZcK (w:Zc) :(zeroValue 43).run Zb w= .ok .nilFunc w:=by kernel_rfl
theorem rl {w:Zc}{b:Nat}(hT:Jn w b (opTab q.e))(h:N5 c k s L)(hk:k+1≤1000000)(o:Oq)(ho:Kk o) :
  (∃F,(J5 118 (.map (some b)) (.int .i64 o.kd) true).run Zb w= .ok (.tuple #[.func (.func F) #[.pointer (some ⟨q.e,0,none⟩)] #[],.bool true]) w∧yj c q s L o F)∨
  ((J5 118 (.map (some b)) (.int .i64 o.kd) true).run Zb w= .ok (.tuple #[.nilFunc,.bool false]) w∧opO c s o=(Ge s o.kd 11,s)∧Gn c s L o=L):=by
 obtain ⟨h1,h2,h3,h4,h5,h6,h7⟩:=ZiI (q:=q) h hk o ho;have hwf:(Lit.int .i64 o.kd).wf=true:=ho.1
 rcases hT.lookup (int_keyed Yc) Tryz.underlying118 (ZcK w) (rm q.e) (keyOf_int_mk Yc hwf) with ⟨v,hv,hr⟩ | ⟨KF,hr⟩
 ·refine .inl ?_;simp only [opTab,ZY,Yf,or_false,Prod.mk.injEq,Value.int.injEq,true_and] at hv
  rcases hv with ⟨e,rfl⟩ | ⟨e,rfl⟩ | ⟨e,rfl⟩ | ⟨e,rfl⟩ | ⟨e,rfl⟩ | ⟨e,rfl⟩ | ⟨e,rfl⟩
  ·exact ⟨_,hr,h7 e⟩
  ·exact ⟨_,hr,h6 e⟩
  ·exact ⟨_,hr,h5 e⟩
  ·exact ⟨_,hr,h4 e⟩
  ·exact ⟨_,hr,h3 e⟩
  ·exact ⟨_,hr,h2 e⟩
  ·exact ⟨_,hr,h1 e⟩
 ·refine .inr ⟨hr,?_⟩;have hn: ∀i:Int,1≤i→i≤7→o.kd≠i:=fun i h1 h2 e=>by
   have Fi:i=1∨i=2∨i=3∨i=4∨i=5∨i=6∨i=7:=by omega
   rw [e] at KF
   rcases Fi with rfl | rfl | rfl | rfl | rfl | rfl | rfl
   ·exact KF (.int .i64 1,.func (.func 83) #[.pointer (some ⟨q.e,0,none⟩)] #[]) FP rfl
   ·exact KF (.int .i64 2,.func (.func 84) #[.pointer (some ⟨q.e,0,none⟩)] #[]) FP rfl
   ·exact KF (.int .i64 3,.func (.func 85) #[.pointer (some ⟨q.e,0,none⟩)] #[]) FP rfl
   ·exact KF (.int .i64 4,.func (.func 86) #[.pointer (some ⟨q.e,0,none⟩)] #[]) FP rfl
   ·exact KF (.int .i64 5,.func (.func 87) #[.pointer (some ⟨q.e,0,none⟩)] #[]) FP rfl
   ·exact KF (.int .i64 6,.func (.func 88) #[.pointer (some ⟨q.e,0,none⟩)] #[]) FP rfl
   ·exact KF (.int .i64 7,.func (.func 89) #[.pointer (some ⟨q.e,0,none⟩)] #[]) FP rfl
  constructor
  ·unfold opO;rw [if_neg (hn 1 Ze Ze),if_neg (hn 2 Ze Ze),if_neg (hn 3 Ze Ze),if_neg (hn 4 Ze Ze),if_neg (hn 5 Ze Ze),if_neg (hn 6 Ze Ze),if_neg (hn 7 Ze Ze)]
  ·unfold Gn;rw [if_neg (hn 7 Ze Ze),if_neg (fun h=>hn 4 Ze Ze h.1)]
theorem uf {Q1 Q2:Zc→(Nat→Prop)→Prop}{r:Rp}{ia ip:Option Addr}{ca cp:Nat}(hN:11≤N)(h:Eg (N+2+2) w0 w c a q (rowsX (ZD (ZD Z N Q1) (N+1) Q2) (N+2) r ia ca ip cp) s L) :Eg (N+2) w0 w c a q (rowsX Z N r ia ca ip cp) s L:=by
 refine h.remap Ze (fun k=>if k=N then N+2 else if k=N+1 then N+2+1 else k) (fun k hk=>?_) (fun k hk=>?_) (fun k hk=>?_) (fun i j hi hj e=>?_) fun k h1 h2=>?_
 ·exact jA
 ·exact AO
 ·exact AO
 ·exact zG
 ·unfold rowsX
  by_cases P7:k=N+1
  ·subst P7;rw [xput_same,if_neg Ze,if_pos rfl,xput_same]
  ·rw [xput_ne P7]
   by_cases aL:k=N
   ·subst aL;rw [xput_same,if_pos rfl,xput_ne Ze,xput_same]
   ·rw [xput_ne aL,if_neg aL,if_neg P7];rw [xput_ne Ze,xput_ne Ze,xput_ne Ze,xput_ne Ze]
theorem dI (h:N5 c k s L)(hk:k+1≤1000000)(he:Eg N w0 w c a q Z s L)(o:Oq)(ho:Kk o) :
  Zj Zb 16 #[.pointer (some ⟨q.e,0,none⟩),.agg (ZM o)] w (na N w0 c a q Z (opO c s o) (Gn c s L o)):=by
 have hN:=he.low;have hO:=DA he o;have HT:=Za (h.inv.tm h.ge (show k≤1000000 by omega));have HN:=Za hN;have HF:=Za (fun w b (hT:Jn w b (opTab q.e))=>rl hT h hk o ho);clear h hk he ho hN;go_enter Tryz.func16,Tryz.ntmps16;go_upto_region 1 with (fail);generalize hW:(w.alloc (.cells (ZM o) 37)).alloc (.cells _ 42)=V0;have eW:(w.alloc (.cells (ZM o) 37)).alloc (.cells (Zw Gg) 42)=V0:=hW;rw [eW] at hO;generalize w.heap.size=b at*;have HO:=Za hO;clear hW eW hO;go_upto_region 3 with (fail);refine Pu (fun w'=>Of N w0 w' c a q Z s L b o) 7 [0,2,3] (?_) ?_
 ·exact Eg.drew HO.out
 refine Kg ?_;refine TK ?_;refine BL ?_;refine YJ _ _ ⟨b,0,none⟩ (.int .i64 o.kd) rfl rfl rfl (fun w h=>by simp [go_sem,h]) (fun w h=>Of.k0 h HN.out) ?_;refine Qe ?_;refine Qc ?_;have hO1:Of N w0 V0.drew c a q Z s L b o:=Eg.drew HO.out;clear HO;generalize V0.drew=V1 at*;refine hfO (i:=1) ?_;refine JZ #[.pointer (some ⟨q.e,0,none⟩)] Tryz.call38 ((Zil _ _).mono ?_);rintro r w2 ⟨bt,rfl,hT,_,hb⟩;have yD:Of N w0 w2 c a q Z s L b o:=Eg.below hO1 hb;refine ⟨_,rfl,yD,?_⟩;clear hO1 hb;have N4:=Za yD;have AT:=HF.out w2 bt hT;clear HF hT;refine hfO (i:=4) ?_;refine JG ?_
 rcases AT with ⟨F,hr,hF⟩ | ⟨hr,hop,iD⟩
 ·refine YD rfl rfl (NU rfl _ _ _ rfl rfl hr ⟨yD,?_⟩);clear hr;refine JG ?_;refine FX (fun w'=>Of N w0 w' c a q Z s L b o) (m:=5) (f:=0) [5,6,7,8,9] (?_) ?_
  ·exact yD
  refine Kg ?_;refine NX ?_;refine TJ ?_;refine Qc ?_;clear yD;refine ⟨by kernel_rfl,Yr ?_⟩;refine JG ?_;have BX:=hF.1;have HA:=Za (hF.2 _ _ _ _ _ N4.out);have VJ:=Za (Of.op N4.out HN.out);clear hF N4;go_wp2_with (first | (refine Zn rfl 37 _ rfl b rfl 37 _ (0,0) _ VJ.out ZV rfl QL ?_));refine HA.out.mono ?_;rintro e w9 ⟨ia,ca,ip,cp,rfl,h9⟩;have H9:=Za h9;have VG:=Za (h9.blkAt (r:=N+1) (g:=b+1) (t:=42) (cs:=Zw Gg) ZJ Ze jl);clear h9 VJ HA BX;obtain ⟨R,hR⟩ : ∃R,SW (opO c s o).1 ia ca ip cp=R:=⟨_,rfl⟩;have HR:=Za hR;rw [hR];clear hR;go_wp2_with (first | (refine Zo rfl _ _ _ rfl (b+1) (Zw R) rfl rfl 42 _ VG.out YS rfl (YH _) ?_));refine ZL (v:= .agg (Zw R)) (ZO (fn:=Tryz.f16) rfl _ _ (b+1) 42 _ (0,0) _ rfl (Z6 _ _ _ _ _ _ VG.out) Yb rfl YS) rfl ?_;refine ⟨ia,ca,ip,cp,by rw [HR.out],?_⟩;refine uf (Q1:=YW b 37 (ZM o)) (Q2:=YW (b+1) 42 (Zw R)) HN.out ?_;have TR:=H9.out.setr (r:=N+1) (g:=b+1) (t:=42) (cs:=Zw Gg) ZJ Ze jl (cs':=Zw R) (QS VG.out _) (XK (S:=fun i=>i=b+1) (ZH _ _) (.inl rfl) _);refine TR.ext fun k h1 h2=>?_
  unfold rowsX
  by_cases hk:k=N+1
  ·subst hk; rw [xput_same,xput_ne Ze,xput_ne Ze,xput_same]
  ·rw [xput_ne hk]
   by_cases h3:k=N+2+1
   ·subst h3; rw [xput_same,xput_same]
   ·rw [xput_ne h3,xput_ne h3]
    by_cases h4:k=N+2
    ·subst h4; rw [xput_same,xput_same]
    ·rw [xput_ne h4,xput_ne h4,xput_ne hk,xput_ne hk]
 ·refine YD rfl rfl (NU rfl _ _ _ rfl rfl hr ⟨yD,?_⟩);clear hr;refine JG ?_;refine FX (fun w'=>Of N w0 w' c a q Z s L b o) (m:=5) (f:=0) [5,6,7,8,9] (?_) ?_
  ·exact yD
  refine Kg ?_;refine NX ?_;refine TJ ?_;refine Qc ?_;clear yD;refine ⟨by kernel_rfl,Yr ?_⟩;refine JG ?_;have HE:=Za (Zh hop iD);have VJ:=Za (Of.op N4.out HN.out);clear hop iD;go_wp2_with (first | (refine Zn rfl 37 _ rfl b rfl 37 _ (0,0) _ VJ.out ZV rfl QL ?_));refine (Vw (N:=N+2) N4.out HT.out o 11).mono ?_;rintro e w9 ⟨rfl,h9⟩;have H9:Hid (Of N w0 w9 c a q Z s L b o):=Za h9;have VG:=Za (Of.rc h9 HN.out);clear h9 VJ N4;go_wp2_with (first | (refine Zo rfl _ _ _ rfl (b+1) (Zw (VX o.kd 11 s.bk s.ep)) rfl rfl 42 _ VG.out YS rfl (YH _) ?_));refine ZL (v:= .agg (Zw (VX o.kd 11 s.bk s.ep))) (ZO (fn:=Tryz.f16) rfl _ _ (b+1) 42 _ (0,0) _ rfl (Z6 _ _ _ _ _ _ VG.out) Yb rfl YS) rfl ?_;rw [HE.out.1,HE.out.2];exact na.of (x:=(Ge s o.kd 11,s)) ⟨rfl,H9.out.done HN.out _⟩ rfl rfl
end
end
section
open Go Go.RowKit Go.Deep
def Gs (n B:Nat)(P:Nat→Zc→(Nat→Prop)→Prop)(w:Zc) :Prop:=
 (∀j,Xa (P j))∧ ∃Φ,Fam n P Φ w∧ ∀k,k < n→ ∀i,Φ k i→B≤i
def CF:Nat→Zc→(Nat→Prop)→Prop:=fun _ _ _=>False
section
variable {n m B C:Nat} {P Q:Nat→Zc→(Nat→Prop)→Prop} {w w':Zc}
theorem Gs.zero:Gs 0 B CF w:=⟨fun j=>⟨fun w S h=>h.elim,fun w w' S T h=>h.elim⟩,fun _ _=>False,Fam.zero,fun k hk=>by omega⟩
theorem fo {R:Zc→(Nat→Prop)→Prop}(hP: ∀j,Xa (P j))(hR:Xa R) : ∀j,Xa (ZD P n R j):=fun j=>by
 unfold ZD; split
 ·exact hR
 ·exact hP j
theorem Gs.more {R:Zc→(Nat→Prop)→Prop}{S':Nat→Prop}(h:Gs n B P w)(hR:Xa R)(hr:R w' S')(hS: ∀i,S' i→w.heap.size≤i)(hb:Zs w.heap.size w w')(hB:B≤w.heap.size) :Gs (n+1) B (ZD P n R) w':=by
 obtain ⟨hP,Φ,F,h1⟩:=h;have u4:=fo (n:=n) hP hR;refine ⟨u4,_,F.more (P':=ZD P n R) (fun j _=>hP j) (u4 n) (fun j hj=>if_neg Ze) (by rw [show ZD P n R n=R from if_pos rfl]; exact hr) hS hb,fun k hk i hi=>?_⟩
 by_cases DX:k=n
 ·subst DX;rw [Xf] at hi;exact Z9 hB (hS i hi)
 ·rw [fput_other DX] at hi;exact h1 k Ze i hi
theorem Gs.kept {T:Nat→Prop}(h:Gs n B P w)(hk:Kept T w w')(hT: ∀i,T i→i < B) :Gs n B P w':=by
 obtain ⟨hP,Φ,F,h1⟩:=h;exact ⟨hP,Φ,F.kept (fun j _=>hP j) hk (fun k hk i hi ht=>by have:=h1 k hk i hi; have:=hT i ht; omega),h1⟩
theorem Gs.below (h:Gs n B P w)(hb:Zs w.heap.size w w') :Gs n B P w':=by
 obtain ⟨hP,Φ,F,h1⟩:=h;exact ⟨hP,Φ,F.below (fun j _=>hP j) hb,h1⟩
theorem Gs.join (h:Gs n B P w)(h':Gs m C Q w')(hb:Zs w.heap.size w w')(hC:w.heap.size≤C)(hB:B≤w.heap.size) :Gs (n+m) B (fun k=>if k < n then P k else Q (k - n)) w':=by
 obtain ⟨hP,Φ,F,h1⟩:=h;obtain ⟨hQ,Ψ,G,h2⟩:=h';have F':=F.below (fun j _=>hP j) hb;refine ⟨fun j=>?_,fun k=>if k < n then Φ k else Ψ (k - n),⟨fun k hk=>?_,fun k hk i hi=>?_,fun j k hj hk EU i hi UR=>?_⟩,fun k hk i hi=>?_⟩
 ·by_cases hj:j < n
  ·simp only [if_pos hj]; exact hP j
  ·simp only [if_neg hj]; exact hQ _
 ·by_cases DX:k < n
  ·simp only [if_pos DX]; exact F'.part k DX
  ·simp only [if_neg DX]; exact G.part _ Ze
 ·by_cases DX:k < n
  ·simp only [if_pos DX] at hi; exact F'.lt k DX i hi
  ·simp only [if_neg DX] at hi; exact G.lt _ Ze i hi
 ·by_cases Dj:j < n
  ·simp only [if_pos Dj] at hi
   by_cases DX:k < n
   ·simp only [if_pos DX] at UR; exact F'.ap j k Dj DX EU i hi UR
   ·simp only [if_neg DX] at UR;have:=F.lt j Dj i hi;have:=h2 _ Ze i UR;omega
  ·simp only [if_neg Dj] at hi
   by_cases DX:k < n
   ·simp only [if_pos DX] at UR;have:=F.lt k DX i UR;have:=h2 _ Ze i hi;omega
   ·simp only [if_neg DX] at UR;exact G.ap _ _ Ze Ze Ze i hi UR
 ·by_cases DX:k < n
  ·simp only [if_pos DX] at hi; exact h1 k DX i hi
  ·simp only [if_neg DX] at hi;have:=h2 _ Ze i hi;omega
end
section
variable {w w':Zc} {c:Nat→Int}
def Zdl (b:Nat)(n L:Int) :Zc→(Nat→Prop)→Prop:=fun w S=>DQ w b n L∧ ∀i,S i ↔ i=b
def Zah (b:Nat)(C:Int) :Zc→(Nat→Prop)→Prop:=fun w S=>KR w b 0 0 0 C∧ ∀i,S i ↔ i=b
def zV (b:Nat) :Zc→(Nat→Prop)→Prop:=fun w S=>mF w b 0∧ ∀i,S i ↔ i=b
def tR (b:Nat) :Zc→(Nat→Prop)→Prop:=fun w S=>(∃Sp T D,Vd w b 0 Sp T D∧Jq 0 Sp T D)∧ ∀i,S i ↔ i=b
def tT (b cap:Nat) :Zc→(Nat→Prop)→Prop:=fun w S=>Fh w b S cap []
def tD (b n:Nat) :Zc→(Nat→Prop)→Prop:=fun w S=>GX w b S n []
def tQ (b n:Nat) :Zc→(Nat→Prop)→Prop:=fun w S=>Ln w b S n [] []
theorem mj {b:Nat} :Xa (tR b):=by
 refine ⟨fun w S h i hi=>?_,fun w w' S T h hk hT=>?_⟩
 ·obtain ⟨⟨Sp,T,D,h1,_⟩,h2⟩:=h;rw [(h2 i).1 hi]; exact h1.lt
 ·obtain ⟨⟨Sp,T',D,h1,hf⟩,h2⟩:=h;exact ⟨⟨Sp,T',D,h1.kept hk (hT _ ((h2 _).2 rfl)),hf⟩,h2⟩
theorem ml {b n:Nat} :Xa (tT b n):=⟨fun w S h i hi=>h.lt i hi,fun w w' S T h hk hT=>h.kept hk hT⟩
theorem mh {b n:Nat} :Xa (tD b n):=⟨fun w S h i hi=>h.lt i hi,fun w w' S T h hk hT=>h.kept hk hT⟩
theorem mi {b n:Nat} :Xa (tQ b n):=⟨fun w S h i hi=>h.lt i hi,fun w w' S T h hk hT=>h.kept hk hT⟩
structure gN (w0:Zc)(t:Nat)(cs:Array Zl)(c:Nat→Int)(n:Nat)(P:Nat→Zc→(Nat→Prop)→Prop)(w:Zc) :Prop where
 cfg:Blk w w0.heap.size 24 (Zk c)
 out:Blk w (w0.heap.size+1) t cs
 gs:Gs n (w0.heap.size+2) P w
 below:Zs w0.heap.size w0 w
 size:w0.heap.size+2≤w.heap.size
section
variable {w0:Zc} {t n:Nat} {cs:Array Zl} {P:Nat→Zc→(Nat→Prop)→Prop}
theorem gN.start (w:Zc)(t:Nat)(cs:Array Zl)(c:Nat→Int) :gN w t cs c 0 CF ((w.alloc (.cells (Zk c) 24)).alloc (.cells cs t)):=by
 refine ⟨(Zv w _ _).alloc _,?_,Gs.zero,((Zp _ _).alloc (Zg _) _).alloc ZI _,by simp⟩;have:=Zv (w.alloc (.cells (Zk c) 24)) t cs;rwa [show (w.alloc (.cells (Zk c) 24)).heap.size=w.heap.size+1 by simp] at this
theorem gN.to (h:gN w0 t cs c n P w)(hb:Zs w.heap.size w w') :gN w0 t cs c n P w':=
 ⟨h.cfg.below hb h.cfg.lt,h.out.below hb h.out.lt,h.gs.below hb,h.below.trans (hb.mono h.below.size),Z9 h.size hb.size⟩
theorem gN.more (h:gN w0 t cs c n P w){R:Zc→(Nat→Prop)→Prop}{S':Nat→Prop}(hR:Xa R)(hr:R w' S')(hS: ∀i,S' i→w.heap.size≤i)(hb:Zs w.heap.size w w') :gN w0 t cs c (n+1) (ZD P n R) w':=
 ⟨h.cfg.below hb h.cfg.lt,h.out.below hb h.out.lt,h.gs.more hR hr hS hb h.size,h.below.trans (hb.mono h.below.size),Z9 h.size hb.size⟩
theorem gN.done (h:gN w0 t cs c n P w)(cs':Array Zl) :Gs n (w0.heap.size+2) P (w.setRow (w0.heap.size+1) cs')∧Zs w0.heap.size w0 (w.setRow (w0.heap.size+1) cs'):=by
 have hk:Kept (fun i=>i=w0.heap.size+1) w (w.setRow (w0.heap.size+1) cs'):=XK (S:=fun i=>i=w0.heap.size+1) (ZH _ _) (.inl rfl) _;exact ⟨h.gs.kept hk fun i hi=>by omega,Kept.below h.below hk (fun i hi=>by omega) h.below.size⟩
end
theorem qK (a:Nat) :(#[Value.pointer (some ⟨a,0,none⟩)]).all (·.oneCell')=true:=ZT.2 fun u hu=>by
 simp only [UL,ZY,Yf,or_false] at hu;subst hu; rfl
theorem SM (a b c:Nat) :(#[Value.pointer (some ⟨a,0,none⟩),.pointer (some ⟨b,0,none⟩),.pointer (some ⟨c,0,none⟩)]).all (·.oneCell')=true:=ZT.2 fun u hu=>by
 simp only [UL,ZY,Yf,or_false] at hu
 rcases hu with rfl | rfl | rfl <;> rfl
theorem Af:(Tryz.prog.info? 86).map (·.size)=some 1:=by kernel_rfl
theorem SA:(Tryz.prog.info? 92).map (·.size)=some 3:=by kernel_rfl
theorem Ae:(Tryz.prog.info? 98).map (·.size)=some 3:=by kernel_rfl
theorem Ny:(Tryz.prog.info? 104).map (·.size)=some 3:=by kernel_rfl
theorem lq (w:Zc)(hL:1≤c 13) :Zj Zb 30 #[.agg (Zk c)] w fun e w'=> ∃b,e= .returned (.agg #[.pointer (some ⟨b,0,none⟩)])∧Gs 1 (w.heap.size+2) (ZD CF 0 (Zdl b 0 (c 13))) w'∧Zs w.heap.size w w':=by
 have HL:=Za hL;clear hL;have F0:=gN.start w 86 #[.pointer none] c;go_enter Tryz.func30,Tryz.ntmps30;go_upto_region 1 with (fail);generalize (w.alloc (.cells (Zk c) 24)).alloc (.cells #[.pointer none] 86)=W at*;have HF:=Za F0;obtain ⟨b,hb⟩ : ∃b,w.heap.size=b:=⟨_,rfl⟩;have HB:=Za hb;have y:W.cell? ⟨b,13,none⟩=some (.int .i64 (c 13)):=by rw [←hb]; exact F0.cfg.cell 13
 rw [hb];clear hb F0;go_wp2_with fail;refine (qj (c 13) W HL.out).mono ?_;rintro e w2 ⟨rfl,rfl⟩;have F2:=HF.out.more By (R:=Zdl W.heap.size 0 (c 13)) (S':=fun i=>i=W.heap.size) (w':=W.alloc (.cells #[.int .i64 0,.int .i64 (c 13)] 217)) ⟨Zv _ _ _,fun i=>Vv⟩ (fun i hi=>by omega) ((Zp _ _).alloc (Zg _) _);have xZ:=Za F2;clear F2 HF y;generalize W.heap.size=z at*;generalize W.alloc (.cells #[.int .i64 0,.int .i64 (c 13)] 217)=w2 at*;have HO:Hid (Blk w2 (b+1) 86 #[.pointer none]):=Za (by have:=xZ.out.out; rwa [HB.out] at this);go_wp2_with (first | (refine Zo rfl _ _ _ rfl (b+1) #[.pointer (some ⟨z,0,none⟩)] rfl rfl 86 _ HO.out Af rfl (qK _) ?_));have hd:=xZ.out.done #[.pointer (some ⟨z,0,none⟩)];rw [HB.out] at hd;have HD:=Za hd;clear hd;exact ZL (v:= .agg #[.pointer (some ⟨z,0,none⟩)]) (ZO (fn:=Tryz.f30) rfl _ _ (b+1) 86 _ (0,0) _ rfl (Z6 _ _ _ _ _ _ HO.out) Tryz.underlying86 rfl Af) rfl ⟨z,rfl,by rw [HB.out]; exact HD.out.1,by rw [HB.out]; exact HD.out.2⟩
theorem ZbK (w:Zc)(h1:1≤c 0)(h2:c 0≤4096) :Zj Zb 73 #[.int .i64 (c 0)] w fun e w'=> ∃b S,e= .returned (.pointer (some ⟨b,0,none⟩))∧tT b (c 0).toNat w' S∧(∀i,S i→w.heap.size≤i)∧Zs w.heap.size w w':=by
 have:=eQ (c 0).toNat w Ze Ze;rwa [show (((c 0).toNat:Nat) :Int)=c 0 by omega] at this
theorem ZbH (w:Zc)(h1:0≤c 4)(h2:c 4≤18446744073709551615) :Zj Zb 74 #[.int .u64 (c 4)] w fun e w'=> ∃b S,e= .returned (.pointer (some ⟨b,0,none⟩))∧Zah b (c 4) w' S∧(∀i,S i→w.heap.size≤i)∧Zs w.heap.size w w':=
 (ZbO (c 4) w h1 h2).mono fun e w' ⟨he,g1,_,g2,_⟩=>⟨_,fun i=>i=w.heap.size,he,⟨g1,fun i=>Vv⟩,fun i hi=>by omega,g2⟩
theorem ZbE (w:Zc) :Zj Zb 75 #[] w fun e w'=> ∃b S,e= .returned (.pointer (some ⟨b,0,none⟩))∧zV b w' S∧(∀i,S i→w.heap.size≤i)∧Zs w.heap.size w w':=
 (eS w).mono fun e w' ⟨b,he,g1,g2,g3⟩=>⟨b,fun i=>i=b,he,⟨g2.out,fun i=>Vv⟩,fun i hi=>by omega,g3⟩
theorem ZbI (w:Zc)(h1:1≤c 1)(h2:c 1≤4096) :Zj Zb 76 #[.int .i64 (c 1)] w fun e w'=> ∃b S,e= .returned (.pointer (some ⟨b,0,none⟩))∧tQ b (c 1).toNat w' S∧(∀i,S i→w.heap.size≤i)∧Zs w.heap.size w w':=by
 have:=bA (c 1).toNat w Ze Ze;rw [show (((c 1).toNat:Nat) :Int)=c 1 by omega] at this;exact this.mono fun e w' ⟨he,⟨S,g1,g2⟩,g3⟩=>⟨_,S,he,g1,g2,g3⟩
theorem ZbJ (w:Zc) :Zj Zb 77 #[] w fun e w'=> ∃b S,e= .returned (.pointer (some ⟨b,0,none⟩))∧tR b w' S∧(∀i,S i→w.heap.size≤i)∧Zs w.heap.size w w':=
 (eU w).mono fun e w' ⟨he,g1⟩=>by
  subst g1;exact ⟨_,fun i=>i=w.heap.size,he,⟨⟨0,0,0,Zv _ _ _,kI⟩,fun i=>Vv⟩,fun i hi=>by omega,(Zp _ _).alloc (Zg _) _⟩
theorem ZbD (w:Zc)(h1:1≤c 12)(h2:c 12≤4096) :Zj Zb 78 #[.int .i64 (c 12)] w fun e w'=> ∃b S,e= .returned (.pointer (some ⟨b,0,none⟩))∧tD b (c 12).toNat w' S∧(∀i,S i→w.heap.size≤i)∧Zs w.heap.size w w':=by
 have:=eR (c 12).toNat w Ze Ze;rwa [show (((c 12).toNat:Nat) :Int)=c 12 by omega] at this
theorem ring_new {R E k b n:Nat}(h:Blk w b R #[.int .i64 n,.slice none 0 0,.int .i64 0,.int .i64 0])(h1:1≤n)(h2:n≤4096) :BV R E k b n 0 [] w fun i=>i=b:=
 ⟨none,⟨by simp,by simp,.inl ⟨rfl,rfl,h,h1,by omega⟩⟩,fun i=>⟨fun h=> .inl h,fun h=>by rcases h with h | h; exact h; cases h⟩⟩
theorem ZbG (w:Zc)(h1:1≤c 1)(h2:c 1≤4096) :Zj Zb 79 #[.int .i64 (c 1)] w fun e w'=> ∃b S,e= .returned (.pointer (some ⟨b,0,none⟩))∧BV 189 3 1 b (c 1).toNat 0 [] w' S∧(∀i,S i→w.heap.size≤i)∧Zs w.heap.size w w':=by
 have:=Pk (c 1).toNat w Ze Ze;exact Zcu
theorem ZbF (w:Zc)(h1:1≤c 1)(h2:c 1≤4096) :Zj Zb 80 #[.int .i64 (c 1)] w fun e w'=> ∃b S,e= .returned (.pointer (some ⟨b,0,none⟩))∧BV 192 73 2 b (c 1).toNat 0 [] w' S∧(∀i,S i→w.heap.size≤i)∧Zs w.heap.size w w':=by
 have:=bP (c 1).toNat w Ze Ze;exact Zcu
theorem ZbL (w:Zc)(h1:1≤c 1)(h2:c 1≤4096) :Zj Zb 81 #[.int .i64 (c 1)] w fun e w'=> ∃b S,e= .returned (.pointer (some ⟨b,0,none⟩))∧BV 195 75 2 b (c 1).toNat 0 [] w' S∧(∀i,S i→w.heap.size≤i)∧Zs w.heap.size w w':=by
 have:=bX (c 1).toNat w Ze Ze;exact Zcu
theorem eX (w:Zc)(hL:1≤c 0∧c 0≤4096∧0≤c 4∧c 4≤18446744073709551615) :Zj Zb 31 #[.agg (Zk c)] w fun e w'=> ∃r l k,e= .returned (.agg #[.pointer (some ⟨r,0,none⟩),.pointer (some ⟨l,0,none⟩),.pointer (some ⟨k,0,none⟩)])∧Gs 3 (w.heap.size+2) (ZD (ZD (ZD CF 0 (tT r (c 0).toNat)) 1 (Zah l (c 4))) 2 (zV k)) w'∧Zs w.heap.size w w':=by
 have HL:=Za hL;clear hL;have F0:=gN.start w 92 #[.pointer none,.pointer none,.pointer none] c;go_enter Tryz.func31,Tryz.ntmps31;go_upto_region 1 with (fail);generalize (w.alloc (.cells (Zk c) 24)).alloc (.cells #[.pointer none,.pointer none,.pointer none] 92)=W at*;have HF:=Za F0;obtain ⟨b,hb⟩ : ∃b,w.heap.size=b:=⟨_,rfl⟩;have HB:=Za hb;rw [hb];clear F0 hb;have ES:Blk W.drew b 24 (Zk c):=by rw [←HB.out]; exact HF.out.cfg
 refine Pu (fun w'=>Blk w' b 24 (Zk c)) 5 [0,1,3,4] (?_) ?_
 ·exact ES
 refine Kg ?_;refine Ma ?_;refine GN ?_;refine YJ _ _ ⟨b,0,none⟩ (.int .i64 (c 0)) rfl rfl rfl (fun w h=>by simp [go_sem,h]) (fun w h=>h.cell 0) ?_;refine Qe ?_;refine GN ?_;refine YJ _ _ ⟨b,4,none⟩ (.int .u64 (c 4)) rfl rfl rfl (fun w h=>by simp [go_sem,h]) (fun w h=>h.cell 4) ?_;refine Qe ?_;refine Qc ?_;have F1:=Za (HF.out.to ((Zp _ _).drew));clear HF ES;generalize W.drew=W1 at*;refine hfO (i:=2) ?_;refine JZ #[.int .i64 (c 0)] Tryz.call73 ((ZbK W1 HL.out.1 HL.out.2.1).mono ?_);rintro e w2 ⟨r,S0,rfl,hR0,o6,Wc⟩;have F2:=Za (F1.out.more (R:=tT r (c 0).toNat) ml hR0 o6 Wc);have ES:Blk w2 b 24 (Zk c):=by rw [←HB.out]; exact F2.out.cfg
 refine ⟨_,rfl,ES,?_⟩;clear F1 hR0 o6 Wc;refine EE ?_;refine JG ?_;refine JZ #[.int .u64 (c 4)] Tryz.call74 ((ZbH w2 HL.out.2.2.1 HL.out.2.2.2).mono ?_);rintro e w3 ⟨l,S1,rfl,o4,Se,ER⟩;have F3:=Za (F2.out.more (R:=Zah l (c 4)) By o4 Se ER);have ES:Blk w3 b 24 (Zk c):=by rw [←HB.out]; exact F3.out.cfg
 refine ⟨_,rfl,ES,?_⟩;clear F2 o4 Se ER;refine Mb ?_;refine JG ?_;refine JZ #[] Tryz.call75 ((ZbE w3).mono ?_);rintro e w4 ⟨k,S2,rfl,o5,o7,GJ⟩;have F4:=Za (F3.out.more (R:=zV k) By o5 o7 GJ);have ES:Blk w4 b 24 (Zk c):=by rw [←HB.out]; exact F4.out.cfg
 refine ⟨_,rfl,ES,?_⟩;clear F3 o5 o7 GJ;refine JG ?_;refine FX (fun w'=>Blk w' b 24 (Zk c)) (m:=2) (f:=1) [7] (?_) ?_
 ·exact ES
 refine Kg ?_;refine FV ?_;refine GN ?_;refine Qc ?_;have HO:Hid (Blk w4 (b+1) 92 _):=Za Ik;refine hfO (i:=8) ?_;refine YD rfl rfl (X9 _ _ _ rfl (b+1) #[.pointer (some ⟨r,0,none⟩),.pointer (some ⟨l,0,none⟩),.pointer (some ⟨k,0,none⟩)] rfl rfl 92 _ HO.out SA rfl (SM _ _ _) ?_);have hd:=F4.out.done #[.pointer (some ⟨r,0,none⟩),.pointer (some ⟨l,0,none⟩),.pointer (some ⟨k,0,none⟩)];rw [HB.out] at hd;refine ⟨ES.kept (XK (S:=fun i=>i=b+1) (ZH _ _) (.inl rfl) _) Ze,?_⟩;have HD:=Za hd;clear hd ES;refine ⟨by kernel_rfl,Yr ?_⟩;refine JG ?_;go_wp2_with fail;exact ZL (v:= .agg #[.pointer (some ⟨r,0,none⟩),.pointer (some ⟨l,0,none⟩),.pointer (some ⟨k,0,none⟩)]) (ZO (fn:=Tryz.f31) rfl _ _ (b+1) 92 _ (0,0) _ rfl (Z6 _ _ _ _ _ _ HO.out) Tryz.underlying92 rfl SA) rfl ⟨r,l,k,rfl,by rw [HB.out]; exact HD.out.1,by rw [HB.out]; exact HD.out.2⟩
theorem ln (w:Zc)(hL:1≤c 1∧c 1≤4096∧1≤c 12∧c 12≤4096) :Zj Zb 32 #[.agg (Zk c)] w fun e w'=> ∃n m u,e= .returned (.agg #[.pointer (some ⟨n,0,none⟩),.pointer (some ⟨m,0,none⟩),.pointer (some ⟨u,0,none⟩)])∧Gs 3 (w.heap.size+2) (ZD (ZD (ZD CF 0 (tQ n (c 1).toNat)) 1 (tR m)) 2 (tD u (c 12).toNat)) w'∧Zs w.heap.size w w':=by
 have HL:=Za hL;clear hL;have F0:=gN.start w 98 #[.pointer none,.pointer none,.pointer none] c;go_enter Tryz.func32,Tryz.ntmps32;go_upto_region 1 with (fail);generalize (w.alloc (.cells (Zk c) 24)).alloc (.cells #[.pointer none,.pointer none,.pointer none] 98)=W at*;have HF:=Za F0;obtain ⟨b,hb⟩ : ∃b,w.heap.size=b:=⟨_,rfl⟩;have HB:=Za hb;rw [hb];clear F0 hb;have ES:Blk W.drew b 24 (Zk c):=by rw [←HB.out]; exact HF.out.cfg
 refine Pu (fun w'=>Blk w' b 24 (Zk c)) 5 [0,1,4,5] (?_) ?_
 ·exact ES
 refine Kg ?_;refine Ma ?_;refine GN ?_;refine xV ?_;refine Qe ?_;refine GN ?_;refine YJ _ _ ⟨b,12,none⟩ (.int .i64 (c 12)) rfl rfl rfl (fun w h=>by simp [go_sem,h]) (fun w h=>h.cell 12) ?_;refine Qe ?_;refine Qc ?_;have F1:=Za (HF.out.to ((Zp _ _).drew));clear HF ES;generalize W.drew=W1 at*;refine hfO (i:=2) ?_;refine JZ #[.int .i64 (c 1)] Tryz.call76 ((ZbI W1 HL.out.1 HL.out.2.1).mono ?_);rintro e w2 ⟨n,S0,rfl,hR0,o6,Wc⟩;have F2:=Za (F1.out.more (R:=tQ n (c 1).toNat) mi hR0 o6 Wc);have ES:Blk w2 b 24 (Zk c):=by rw [←HB.out]; exact F2.out.cfg
 refine ⟨_,rfl,ES,?_⟩;clear F1 hR0 o6 Wc;refine hfO (i:=3) ?_;refine JG ?_;refine JZ #[] Tryz.call77 ((ZbJ w2).mono ?_);rintro e w3 ⟨m,S1,rfl,o4,Se,ER⟩;have F3:=Za (F2.out.more (R:=tR m) mj o4 Se ER);have ES:Blk w3 b 24 (Zk c):=by rw [←HB.out]; exact F3.out.cfg
 refine ⟨_,rfl,ES,?_⟩;clear F2 o4 Se ER;refine Mb ?_;refine JG ?_;refine JZ #[.int .i64 (c 12)] Tryz.call78 ((ZbD w3 HL.out.2.2.1 HL.out.2.2.2).mono ?_);rintro e w4 ⟨u,S2,rfl,o5,o7,GJ⟩;have F4:=Za (F3.out.more (R:=tD u (c 12).toNat) mh o5 o7 GJ);have ES:Blk w4 b 24 (Zk c):=by rw [←HB.out]; exact F4.out.cfg
 refine ⟨_,rfl,ES,?_⟩;clear F3 o5 o7 GJ;refine JG ?_;refine FX (fun w'=>Blk w' b 24 (Zk c)) (m:=2) (f:=1) [7] (?_) ?_
 ·exact ES
 refine Kg ?_;refine FV ?_;refine GN ?_;refine Qc ?_;have HO:Hid (Blk w4 (b+1) 98 _):=Za Ik;refine hfO (i:=8) ?_;refine YD rfl rfl (X9 _ _ _ rfl (b+1) #[.pointer (some ⟨n,0,none⟩),.pointer (some ⟨m,0,none⟩),.pointer (some ⟨u,0,none⟩)] rfl rfl 98 _ HO.out Ae rfl (SM _ _ _) ?_);have hd:=F4.out.done #[.pointer (some ⟨n,0,none⟩),.pointer (some ⟨m,0,none⟩),.pointer (some ⟨u,0,none⟩)];rw [HB.out] at hd;refine ⟨ES.kept (XK (S:=fun i=>i=b+1) (ZH _ _) (.inl rfl) _) Ze,?_⟩;have HD:=Za hd;clear hd ES;refine ⟨by kernel_rfl,Yr ?_⟩;refine JG ?_;go_wp2_with fail;exact ZL (v:= .agg #[.pointer (some ⟨n,0,none⟩),.pointer (some ⟨m,0,none⟩),.pointer (some ⟨u,0,none⟩)]) (ZO (fn:=Tryz.f32) rfl _ _ (b+1) 98 _ (0,0) _ rfl (Z6 _ _ _ _ _ _ HO.out) Tryz.underlying98 rfl Ae) rfl ⟨n,m,u,rfl,by rw [HB.out]; exact HD.out.1,by rw [HB.out]; exact HD.out.2⟩
theorem CE (w:Zc)(hL:1≤c 1∧c 1≤4096) :Zj Zb 33 #[.agg (Zk c)] w fun e w'=> ∃p d q,e= .returned (.agg #[.pointer (some ⟨p,0,none⟩),.pointer (some ⟨d,0,none⟩),.pointer (some ⟨q,0,none⟩)])∧Gs 3 (w.heap.size+2) (ZD (ZD (ZD CF 0 (BV 189 3 1 p (c 1).toNat 0 [])) 1 (BV 192 73 2 d (c 1).toNat 0 [])) 2 (BV 195 75 2 q (c 1).toNat 0 [])) w'∧Zs w.heap.size w w':=by
 have HL:=Za hL;clear hL;have F0:=gN.start w 104 #[.pointer none,.pointer none,.pointer none] c;go_enter Tryz.func33,Tryz.ntmps33;go_upto_region 1 with (fail);generalize (w.alloc (.cells (Zk c) 24)).alloc (.cells #[.pointer none,.pointer none,.pointer none] 104)=W at*;have HF:=Za F0;obtain ⟨b,hb⟩ : ∃b,w.heap.size=b:=⟨_,rfl⟩;have HB:=Za hb;rw [hb];clear F0 hb;have ES:Blk W.drew b 24 (Zk c):=by rw [←HB.out]; exact HF.out.cfg
 refine Pu (fun w'=>Blk w' b 24 (Zk c)) 5 [0,1,3,4,6,7] (?_) ?_
 ·exact ES
 refine Kg ?_;refine Is ?_;refine GN ?_;refine xV ?_;refine Qe ?_;refine GN ?_;refine xV ?_;refine Qe ?_;refine GN ?_;refine xV ?_;refine Qe ?_;refine Qc ?_;have F1:=Za (HF.out.to ((Zp _ _).drew));clear HF ES;generalize W.drew=W1 at*;refine hfO (i:=2) ?_;refine JZ #[.int .i64 (c 1)] Tryz.call79 ((ZbG W1 HL.out.1 HL.out.2).mono ?_);rintro e w2 ⟨p,S0,rfl,hR0,o6,Wc⟩;have F2:=Za (F1.out.more (R:=BV 189 3 1 p (c 1).toNat 0 []) GL hR0 o6 Wc);have ES:Blk w2 b 24 (Zk c):=by rw [←HB.out]; exact F2.out.cfg
 refine ⟨_,rfl,ES,?_⟩;clear F1 hR0 o6 Wc;refine EE ?_;refine JG ?_;refine JZ #[.int .i64 (c 1)] Tryz.call80 ((ZbF w2 HL.out.1 HL.out.2).mono ?_);rintro e w3 ⟨d,S1,rfl,o4,Se,ER⟩;have F3:=Za (F2.out.more (R:=BV 192 73 2 d (c 1).toNat 0 []) GL o4 Se ER);have ES:Blk w3 b 24 (Zk c):=by rw [←HB.out]; exact F3.out.cfg
 refine ⟨_,rfl,ES,?_⟩;clear F2 o4 Se ER;refine hfO (i:=8) ?_;refine JG ?_;refine JZ #[.int .i64 (c 1)] Tryz.call81 ((ZbL w3 HL.out.1 HL.out.2).mono ?_);rintro e w4 ⟨q,S2,rfl,o5,o7,GJ⟩;have F4:=Za (F3.out.more (R:=BV 195 75 2 q (c 1).toNat 0 []) GL o5 o7 GJ);have ES:Blk w4 b 24 (Zk c):=by rw [←HB.out]; exact F4.out.cfg
 refine ⟨_,rfl,ES,?_⟩;clear F3 o5 o7 GJ;refine JG ?_;refine FX (fun w'=>Blk w' b 24 (Zk c)) (m:=2) (f:=1) [9] (?_) ?_
 ·exact ES
 refine Kg ?_;refine FV ?_;refine GN ?_;refine Qc ?_;have HO:Hid (Blk w4 (b+1) 104 _):=Za Ik;refine hfO (i:=10) ?_;refine YD rfl rfl (X9 _ _ _ rfl (b+1) #[.pointer (some ⟨p,0,none⟩),.pointer (some ⟨d,0,none⟩),.pointer (some ⟨q,0,none⟩)] rfl rfl 104 _ HO.out Ny rfl (SM _ _ _) ?_);have hd:=F4.out.done #[.pointer (some ⟨p,0,none⟩),.pointer (some ⟨d,0,none⟩),.pointer (some ⟨q,0,none⟩)];rw [HB.out] at hd;refine ⟨ES.kept (XK (S:=fun i=>i=b+1) (ZH _ _) (.inl rfl) _) Ze,?_⟩;have HD:=Za hd;clear hd ES;refine ⟨by kernel_rfl,Yr ?_⟩;refine JG ?_;go_wp2_with fail;exact ZL (v:= .agg #[.pointer (some ⟨p,0,none⟩),.pointer (some ⟨d,0,none⟩),.pointer (some ⟨q,0,none⟩)]) (ZO (fn:=Tryz.f33) rfl _ _ (b+1) 104 _ (0,0) _ rfl (Z6 _ _ _ _ _ _ HO.out) Tryz.underlying104 rfl Ny) rfl ⟨p,d,q,rfl,by rw [HB.out]; exact HD.out.1,by rw [HB.out]; exact HD.out.2⟩
end
end
section
open Go Go.RowKit Go.Deep
theorem wU (P:YO)(t:ZN)(cs:Array Zl)(w:Zc) :(Instr.box t (.agg cs)).run P w= .ok (.pointer (some ⟨w.heap.size,0,none⟩)) (w.alloc (.cells cs t)):=by
 simp [Instr.box,newRow,go_sem,Value.cells]
theorem mB {P:YO}{o:Oper}{a:Act}{w:Zc}{K:Act→Zc→Prop}{Q:Exit→Act→Zc→Prop}{t:ZN}{x:Yz}(ho:o.op= .box t x)(cs:Array Zl)(hx:a.eval x= .agg cs)
  (h:K (a.put o.dst (.pointer (some ⟨w.heap.size,0,none⟩))) (w.alloc (.cells cs t))) :o.wp P a w K Q:=by
 unfold Jj Xn;simp only [ho,hx,Yi,wU,ZQ,YC];exact h
theorem iP {P:YO}{ops:Array Oper}{C:Zc→Prop}{Qa:Act→Prop}{op:Oper}{rest:List Oper}{a:Act}(t:ZN)(parts:Array (Nat × Yz))(hw:Region.wanted op (yielded ops a.tmps)=true)(ho:op.op= .build t parts)(cs:Array Zl)(hf:P.built t (parts.map fun (i,x)=>(i,a.eval x)).toList=some cs)(h:ZW P ops C Qa rest (a.put op.dst (.agg cs))) :ZW P ops C Qa (op::rest) a:=by
 refine Gm (.agg cs) hw (fun w=>?_) h;have e:=run_build (P:=P) w t (parts.map fun (i,x)=>(i,a.eval x)) _ hf;unfold Xn;rw [ho];show ((Instr.build t (parts.map fun (i,x)=>(i,a.eval x)))>>=fun r=>pure (Next.value r)).run P w=_;simp only [Yi,e,ZQ,YC]
theorem AF (c:Nat→Int)(w:Zc) :Zj Zb 29 #[.agg (Zk c)] w fun e w'=>e= .returned (.bool (RU c==0))∧Zs w.heap.size w w':=by
 have B0:Blk (w.alloc (.cells (Zk c) 24)) w.heap.size 24 (Zk c):=Zv _ _ _;have b1:Zs w.heap.size w (w.alloc (.cells (Zk c) 24)):=(Zp _ _).alloc (Zg _) _;have H:=Za (fun W=>j5 c W);generalize RU c=k at H ⊢;go_enter Tryz.func29,Tryz.ntmps29;go_upto_region 1 with (fail);have HB:=Za B0;have Hb:=Za b1;clear B0 b1;generalize w.alloc (.cells (Zk c) 24)=W at*;go_wp2_with (first | (refine Zn rfl 24 _ rfl w.heap.size rfl 24 _ (0,0) _ HB.out ZC rfl XG ?_));refine (H.out W).mono ?_;rintro e w2 ⟨rfl,b2⟩;have H2:=Za (Hb.out.trans (b2.mono Hb.out.size));clear Hb b2 HB;go_wp2_with fail;go_ret;exact ⟨rfl,H2.out⟩
section
variable {w:Zc} {c:Nat→Int}
theorem uN (w:Zc)(h:RU c≠0) :Zj Zb 9 #[.agg (Zk c)] w fun e w'=>e= .returned (.tuple #[.pointer none,.int .i64 2])∧Zs w.heap.size w w':=by
 have B0:Blk (w.alloc (.cells (Zk c) 24)) w.heap.size 24 (Zk c):=Zv _ _ _;have b1:Zs w.heap.size w (w.alloc (.cells (Zk c) 24)):=(Zp _ _).alloc (Zg _) _;have hk:(RU c==0)=false:=by simpa using h
 go_enter Tryz.func9,Tryz.ntmps9;go_upto_region 1 with (fail);have HB:=Za B0;have Hb:=Za b1;have HK:=Za hk;clear B0 b1 hk h;generalize w.alloc (.cells (Zk c) 24)=W at*;go_wp2_with (first | (refine Zn rfl 24 _ rfl w.heap.size rfl 24 _ (0,0) _ HB.out ZC rfl XG ?_));refine (AF c W).mono ?_;rintro e w2 ⟨rfl,b2⟩;rw [HK.out];have H2:=Za (Hb.out.trans (b2.mono Hb.out.size));clear Hb b2 HB;go_wp2_with fail;go_ret2;exact ⟨rfl,H2.out⟩
def mkF:Nat→Nat
 | 0=>0 | 1=>2 | 2=>1 | 3=>6 | 4=>3 | 5=>5 | 6=>4 | 7=>7 | 8=>8 | 9=>9 | 10=>10 | k=>k
theorem vI {B:Nat}{P:Nat→Zc→(Nat→Prop)→Prop}{w0 w':Zc}{a:Pl}{q:Ql}{Z:Nat→Zc→(Nat→Prop)→Prop}(h:Gs 11 B P w')(hb:Zs w0.heap.size w0 w')(hB:w0.heap.size≤B)
  (hP: ∀k,k < 11→Pt c a (XE c a q [] [] (fun _ _ _=>False)) fP [] k=P (mkF k)) :Eg 11 ⟨fun _=>False,w0⟩ w' c a q Z fP []:=by
 obtain ⟨_,Φ,F,h1⟩:=h;refine ⟨fun _ _ _=>False,fun k hk=>⟨fun w S h=>h.elim,fun w w' S T h=>h.elim⟩,fun k h1 h2=>by omega,Zg _,fun k=>Φ (mkF k),F.remap mkF (fun k hk=>?_) (fun j k hj hk e=>?_) hP,fun k hk i hi=> .inr ?_,Kept.of_below hb⟩
 ·exact Zf4
 ·have h1:j=0∨j=1∨j=2∨j=3∨j=4∨j=5∨j=6∨j=7∨j=8∨j=9∨j=10:=by omega
  have h2:k=0∨k=1∨k=2∨k=3∨k=4∨k=5∨k=6∨k=7∨k=8∨k=9∨k=10:=by omega
  rcases h1 with rfl | rfl | rfl | rfl | rfl | rfl | rfl | rfl | rfl | rfl | rfl <;> rcases h2 with rfl | rfl | rfl | rfl | rfl | rfl | rfl | rfl | rfl | rfl | rfl <;> first | rfl | (simp [mkF] at e)
 ·have:mkF k < 11:=by
   exact Zf4
  exact Z9 hB (h1 _ this i hi)
theorem Zay (w:Zc)(hg:GE c)(h:RU c=0) :Zj Zb 9 #[.agg (Zk c)] w fun e w'=> ∃a q,e= .returned (.tuple #[.pointer (some ⟨q.e,0,none⟩),.int .i64 0])∧ ∀Z,Eg 11 ⟨fun _=>False,w⟩ w' c a q Z fP []:=by
 have B0:Blk (w.alloc (.cells (Zk c) 24)) w.heap.size 24 (Zk c):=Zv _ _ _;have b1:Zs w.heap.size w (w.alloc (.cells (Zk c) 24)):=(Zp _ _).alloc (Zg _) _;have hk:(RU c==0)=true:=by simpa using h
 have G:=Za hg;go_enter Tryz.func9,Tryz.ntmps9;go_upto_region 1 with (fail);have HB:=Za B0;have Hb:=Za b1;have HK:=Za hk;clear B0 b1 hk h hg;generalize w.alloc (.cells (Zk c) 24)=W at*;obtain ⟨b,hb⟩ : ∃b,w.heap.size=b:=⟨_,rfl⟩;have HH:=Za hb;rw [hb] at HB ⊢;clear hb;go_wp2_with (first | (refine Zn rfl 24 _ rfl b rfl 24 _ (0,0) _ HB.out ZC rfl XG ?_));refine (AF c W).mono ?_;rintro e w2 ⟨rfl,b2⟩;rw [HK.out];have H2:=Za (Zh (HB.out.below b2 HB.out.lt) (Hb.out.trans (b2.mono Hb.out.size)));clear Hb b2 HB HK;go_wp2_with fail;refine Pu (fun w'=>Blk w' b 24 (Zk c)) 8 [0,1,3,5,7] (?_) ?_
 ·exact H2.out.1.drew
 refine Kg ?_;refine NX ?_;refine rJ ?_;refine Qe ?_;refine rJ ?_;refine Qe ?_;refine rJ ?_;refine Qe ?_;refine rJ ?_;refine Qe ?_;refine rJ ?_;refine Qe ?_;refine Qc ?_;have H3:=Za (show Blk w2.drew b 24 (Zk c)∧Zs w.heap.size w w2.drew from ⟨H2.out.1.drew,H2.out.2.drew⟩);clear H2;generalize w2.drew=W3 at*;have G0:=Za (Gs.zero (B:=W3.heap.size) (w:=W3));have HW3:=Za H3.out.2.size;refine hfO (i:=2) ?_;refine JZ #[.agg (Zk c)] Tryz.call30 ((lq W3 G.out.g.len0).mono ?_);rintro e w4 ⟨kc,rfl,g4,b4⟩;have G4:=Za (G0.out.join g4 b4 Ze (Zg _));have H4:=Za (Zh (H3.out.1.below b4 H3.out.1.lt) (Zh (H3.out.2.trans (b4.mono H3.out.2.size)) b4));refine ⟨_,rfl,H4.out.1,?_⟩;clear G0 g4 b4 H3;refine hfO (i:=4) ?_;refine JG ?_;refine JZ #[.agg (Zk c)] Tryz.call31 ((eX w4 ⟨G.out.g.cap0,G.out.g.cap1,by have:=G.out.a2; have:=G.out.a23; have:=G.out.a3; omega,by have:=G.out.a4; omega⟩).mono ?_);rintro e w5 ⟨kr,kl,kk,rfl,g5,b5⟩;have G5:=Za (G4.out.join g5 b5 Ze H4.out.2.2.size);have H5:=Za (Zh (H4.out.1.below b5 H4.out.1.lt) (Zh (H4.out.2.1.trans (b5.mono H4.out.2.1.size)) (Z9 H4.out.2.2.size b5.size)));refine ⟨_,rfl,H5.out.1,?_⟩;clear G4 g5 b5 H4;refine Mb ?_;refine JG ?_;refine JZ #[.agg (Zk c)] Tryz.call32 ((ln w5 ⟨G.out.q0,G.out.q1,G.out.r0,G.out.r1⟩).mono ?_);rintro e w6 ⟨kn,km,ku,rfl,g6,b6⟩;have G6:=Za (G5.out.join g6 b6 Ze H5.out.2.2);have H6:=Za (Zh (H5.out.1.below b6 H5.out.1.lt) (Zh (H5.out.2.1.trans (b6.mono H5.out.2.1.size)) (Z9 H5.out.2.2 b6.size)));refine ⟨_,rfl,H6.out.1,?_⟩;clear G5 g6 b6 H5;refine hfO (i:=8) ?_;refine JG ?_;refine JZ #[.agg (Zk c)] Tryz.call33 ((CE w6 ⟨G.out.q0,G.out.q1⟩).mono ?_);rintro e w7 ⟨kp,kd,kq,rfl,g7,b7⟩;have G7:=Za (G6.out.join g7 b7 Ze H6.out.2.2);have H7:=Za (Zh (H6.out.1.below b7 H6.out.1.lt) (Zh (H6.out.2.1.trans (b7.mono H6.out.2.1.size)) (Z9 H6.out.2.2 b7.size)));refine ⟨_,rfl,H7.out.1,?_⟩;clear G6 g7 b7 H6;refine JG ?_;refine FX (fun w'=>Blk w' b 24 (Zk c)) (m:=4) (f:=3) [9] (?_) ?_
 ·exact H7.out.1
 refine Kg ?_;refine FV ?_;obtain ⟨a,ha⟩ : ∃a:Pl,a=⟨kc,kl,kr,ku,kk,km,kn,kp⟩:=⟨_,rfl⟩;refine iP 107 _ Ye rfl (Uw c ⟨kc,kl,kr,ku,kk,km,kn,kp⟩ ⟨kd,kq,w7.heap.size⟩) Ye ?_;refine Qe ?_;refine Qc ?_;refine hfO (i:=10) ?_;refine JG ?_;refine YD rfl rfl (mB rfl (Uw c ⟨kc,kl,kr,ku,kk,km,kn,kp⟩ ⟨kd,kq,w7.heap.size⟩) rfl ?_);have yH:Zs w7.heap.size w7 (w7.alloc (.cells (Uw c ⟨kc,kl,kr,ku,kk,km,kn,kp⟩ ⟨kd,kq,w7.heap.size⟩) 107)):=(Zp _ _).alloc (Zg _) _;have G8:=Za (G7.out.more (R:=YW w7.heap.size 107 (Uw c ⟨kc,kl,kr,ku,kk,km,kn,kp⟩ ⟨kd,kq,w7.heap.size⟩)) stays_block (S':=fun i=>i=w7.heap.size) ⟨Zv _ _ _,fun i=>Vv⟩ (fun i hi=>by omega) yH H7.out.2.2);have H8:=Za (Zh (H7.out.1.below yH H7.out.1.lt) (Zh (H7.out.2.1.trans (yH.mono H7.out.2.1.size)) H7.out.2.2));refine ⟨H8.out.1,?_⟩;clear G7 H7 yH;generalize w7.alloc (.cells (Uw c ⟨kc,kl,kr,ku,kk,km,kn,kp⟩ ⟨kd,kq,w7.heap.size⟩) 107)=w8 at*;generalize w7.heap.size=ke at*;refine JG ?_;refine FX (fun w'=>Blk w' b 24 (Zk c)) (m:=2) (f:=0) [11,12] (?_) ?_
 ·exact H8.out.1
 refine Kg ?_;show ZW _ _ _ _ [_,_] _;refine BL ?_;refine Qc ?_;refine ⟨by kernel_rfl,Yr ?_⟩;refine JG ?_;go_wp2_with fail;go_ret2;refine ⟨⟨kc,kl,kr,ku,kk,km,kn,kp⟩,⟨kd,kq,ke⟩,rfl,fun Z=>?_⟩;have hB:=H8.out.2.2;refine vI G8.out H8.out.2.1 HW3.out fun k hk=>?_
 have h1:k=0∨k=1∨k=2∨k=3∨k=4∨k=5∨k=6∨k=7∨k=8∨k=9∨k=10:=by omega
 rcases h1 with rfl | rfl | rfl | rfl | rfl | rfl | rfl | rfl | rfl | rfl | rfl <;> rfl
end
end
section
open Go Go.RowKit Go.Deep
structure Sv where
 a:Option Addr
 n:Nat
 c:Nat
def Sv.v (x:Sv) :Zl:= .slice x.a x.n x.c
def J9 (s:Sg)(ac:Int)(u:Int)(v1 v2 v3 v4 v5 v6:Zl) :Array Zl:= #[.int .i64 s.bk,.int .i64 s.ep,v1,.int .u64 s.D,.int .u64 s.P,.int .u64 s.B,.int .u64 ac,v2,v3,v4,v5,v6,.int .i64 (s.cu:Int),.int .u64 s.cy,.int .i64 u]
def snZ:Array Zl:= #[.int .i64 0,.int .i64 0,.slice none 0 0,.int .u64 0,.int .u64 0,.int .u64 0,.int .u64 0,.slice none 0 0,.slice none 0 0,.slice none 0 0,.slice none 0 0,.slice none 0 0,.int .i64 0,.int .u64 0,.int .i64 0]
def rwV (s:Sg)(v:Zl) :Zc→(Nat→Prop)→Prop:=YK 63 7 v s.V.length (XD s.V)
def rwI (l:List Int)(v:Zl) :Zc→(Nat→Prop)→Prop:=YK 3 1 v l.length (l.map (Value.int .i64))
def rwM (s:Sg)(v:Zl) :Zc→(Nat→Prop)→Prop:=YK 73 2 v s.mg.length (JA s.mg)
def rwT (s:Sg)(v:Zl) :Zc→(Nat→Prop)→Prop:=YK 75 2 v s.pt.length (Jo s.pt)
def snX (Z:Nat→Zc→(Nat→Prop)→Prop)(N:Nat)(s:Sg)(v1 v2 v3 v4 v5 v6:Zl) :Nat→Zc→(Nat→Prop)→Prop:=
 ZD (ZD (ZD (ZD (ZD (ZD Z N (rwV s v1)) (N+1) (rwI s.pd v2)) (N+2) (rwI s.F v3)) (N+3) (rwI s.W v4)) (N+4) (rwM s v5)) (N+5) (rwT s v6)
theorem Zcd (s:Sg)(ac u:Int)(a1 a2 a3 a4 a5 a6:Option Addr)(n1 n2 n3 n4 n5 n6 c1 c2 c3 c4 c5 c6:Nat) :(J9 s ac u (.slice a1 n1 c1) (.slice a2 n2 c2) (.slice a3 n3 c3) (.slice a4 n4 c4) (.slice a5 n5 c5) (.slice a6 n6 c6)).all (·.oneCell')=true:=ZT.2 fun u hu=>by
 simp only [J9,UL,ZY,Yf,or_false] at hu
 rcases hu with rfl | rfl | rfl | rfl | rfl | rfl | rfl | rfl | rfl | rfl | rfl | rfl | rfl | rfl | rfl <;> rfl
theorem qk:(Tryz.prog.info? 51).map (·.size)=some 15:=by kernel_rfl
theorem vR:(Tryz.prog.info? 132).map (·.size)=some 3:=by kernel_rfl
section
variable {N:Nat} {w0:DR} {w w' w1:Zc} {c cf:Nat→Int} {a:Pl} {q:Ql} {X Z:Nat→Zc→(Nat→Prop)→Prop} {s s':Sg} {L L':List QT} {k:Nat}
theorem Eg.pall (h:Eg N w0 w c a q Z s L)(hl:s.pd.length≤4096) :Zj Zb 57 #[.pointer (some ⟨a.p,0,none⟩)] w fun e w'=> ∃v,e= .returned v∧Eg (N+1) w0 w' c a q (ZD Z N (rwI s.pd v)) s L:=by
 have hN:=h.low;obtain ⟨X,hX,Uf,hh,_,hK,_⟩:=h.open;refine (hh.pall hX Uf).mono fun e w' ⟨he,g1,_⟩=>⟨_,he,?_⟩
 have g2:=hK _ _ _ _ g1 stays_block rfl rfl;have g3:=g2.torow (r:=N) (t:=3) (k:=1) (n:=s.pd.length) hN Ze xput_same ZI UH;rwa [Xk] at g3
theorem Eg.lall (h:Eg N w0 w c a q Z s L)(cl:Int) :Zj Zb 58 #[.pointer (some ⟨a.n,0,none⟩),.int .i64 cl] w fun e w'=> ∃v,e= .returned v∧Eg (N+1) w0 w' c a q (ZD Z N (rwI (U4 s.F s.W cl) v)) s L:=by
 obtain ⟨X,hX,Uf,hh,_,hK,_⟩:=h.open;exact (hh.lall hX Uf cl).mono fun e w' ⟨v,he,g1,_⟩=>⟨v,he,hK _ _ _ _ g1 stays_row rfl rfl⟩
theorem Eg.mrow (h:Eg N w0 w c a q Z s L)(hl:s.mg.length≤4096) :Zj Zb 59 #[.pointer (some ⟨q.d,0,none⟩)] w fun e w'=> ∃v,e= .returned v∧Eg (N+1) w0 w' c a q (ZD Z N (rwM s v)) s L:=by
 have hN:=h.low;refine (h.mall).mono fun e w' ⟨he,g1,_⟩=>⟨_,he,?_⟩
 have g3:=g1.torow (r:=N) (t:=73) (k:=2) (n:=s.mg.length) hN Ze xput_same (FB _) UH;rwa [Xk] at g3
theorem Eg.trow (h:Eg N w0 w c a q Z s L)(hl:s.pt.length≤4096) :Zj Zb 60 #[.pointer (some ⟨q.q,0,none⟩)] w fun e w'=> ∃v,e= .returned v∧Eg (N+1) w0 w' c a q (ZD Z N (rwT s v)) s L:=by
 have hN:=h.low;refine (h.tall).mono fun e w' ⟨he,g1,_⟩=>⟨_,he,?_⟩
 have g3:=g1.torow (r:=N) (t:=75) (k:=2) (n:=s.pt.length) hN Ze xput_same (FH _) UH;rwa [Xk] at g3
theorem Eg.at_ (h:Eg N w0 w c a q Z s L) :Zj Zb 61 #[.pointer (some ⟨a.k,0,none⟩)] w fun e w'=>e= .returned (.int .i64 s.cu)∧w=w':=by
 obtain ⟨X,hX,Uf,hh,_⟩:=h.open;exact hh.at_ Uf
theorem Eg.carry (h:Eg N w0 w c a q Z s L) :Zj Zb 62 #[.pointer (some ⟨a.m,0,none⟩)] w fun e w'=>e= .returned (.int .u64 s.cy)∧ ∃m,w'=w.drewN m:=by
 obtain ⟨X,hX,Uf,hh,_⟩:=h.open;exact hh.carry Uf
theorem Eg.totals (h:Eg N w0 w c a q Z s L) :Zj Zb 52 #[.pointer (some ⟨a.l,0,none⟩)] w fun e w'=>e= .returned (.agg #[.int .u64 s.D,.int .u64 s.P,.int .u64 s.B])∧Zs w.heap.size w w':=by
 obtain ⟨X,hX,Uf,hh,_⟩:=h.open;exact hh.totals Uf
theorem Eg.ulen (h:Eg N w0 w c a q Z s L)(hL:L.length≤100000) :Zj Zb 63 #[.pointer (some ⟨a.u,0,none⟩)] w fun e w'=>e= .returned (.int .i64 L.length)∧Eg N w0 w' c a q Z s L:=by
 obtain ⟨X,hX,Uf,hh,hK,_⟩:=h.open;exact (hh.ulen hX Uf hL).mono fun e w' ⟨he,g1,_⟩=>⟨he,hK _ _ _ g1 rfl rfl⟩
theorem xt (x y z:Int) :(#[Value.int .u64 x,.int .u64 y,.int .u64 z]).all (·.oneCell')=true:=ZT.2 fun u hu=>by
 simp only [UL,ZY,Yf,or_false] at hu
 rcases hu with rfl | rfl | rfl <;> rfl
theorem Zeg (h:Eg N w0 w c a q Z s L)(t:Tm c s)(hL:L.length≤100000)(yU:s.pd.length≤4096)(pw:s.mg.length≤4096)(eh:s.pt.length≤4096) :
  Zj Zb 19 #[.pointer (some ⟨q.e,0,none⟩)] w fun e w'=> ∃x1 x2 x3 x4 x5 x6:Sv,e= .returned (.agg (J9 s (Yy s.V) L.length x1.v x2.v x3.v x4.v x5.v x6.v))∧
   Eg (N+6) w0 w' c a q (snX Z N s x1.v x2.v x3.v x4.v x5.v x6.v) s L:=by
 have hN:=h.low;have h1:=h.box snZ 51;have HX:=Za (Zh t (Zh hL (Zh yU (Zh pw eh))));have HN:=Za hN;clear h t hL yU pw eh hN;go_enter Tryz.func19,Tryz.ntmps19;go_upto_region 1 with (fail);generalize hW:w.alloc (.cells _ 51)=V0;have eW:w.alloc (.cells snZ 51)=V0:=hW;rw [eW] at h1;generalize w.heap.size=b at*;have H1:=Za h1;have y22:=Eg.x22 h1;clear hW eW h1;go_wp2_with fail;refine (Eg.totals H1.out).mono ?_;rintro e w2 ⟨rfl,GJ⟩;have h2:=(H1.out.below GJ).box #[.int .u64 s.D,.int .u64 s.P,.int .u64 s.B] 132;have H2:=Za h2;clear H1 GJ y22 h2;go_upto_region 4 with (first | (refine Zo rfl _ _ _ rfl w2.heap.size #[.int .u64 s.D,.int .u64 s.P,.int .u64 s.B] rfl rfl 132 _ (heap_alloc_new w2 _) vR rfl (xt _ _ _) ?_; rw [Zu]));generalize w2.heap.size=tb at*;generalize w2.alloc (.cells #[.int .u64 s.D,.int .u64 s.P,.int .u64 s.B] 132)=W2 at*;simp only [List.append_eq,List.cons_append,List.nil_append,Act.put];refine Pu (fun w'=>Blk w' q.e 107 (Uw c a q)∧Blk w' tb 132 #[.int .u64 s.D,.int .u64 s.P,.int .u64 s.B]) 14 [0,1,2,4,5,6,8,9,10,11,12,14,15,16,17,18,19,20,21,22,23,24,26,27,28,29,30,32,33,34,35,36,38,39,40,41,42,44,45,46,47,48,50,51,52,53,54,56,57,58,59,60,62,63,64,65,66,68,69,70,71,72] (?_) ?_
 ·exact ⟨H2.out.drew.blk,H2.out.drew.blkAt (r:=N+1) ZJ Ze xput_same⟩
 refine Kg ?_;show ZW _ _ _ _ (_::_::_::_::_::_::_::_::_::_::_::_::_::_::_::_::_::_::_::_::_::_::_::_::_::_::_::_::_::_::_::_::_::_::_::_::_::_::_::_::_::_::_::_::_::_::_::_::_::_::_::_::_::_::_::_::_::_::_::_::_::_::[]) _;iterate 10 (go_big_quiet_step ((intros; rfl)))
 refine Zfw ?_;refine Qe ?_;refine GN ?_;refine YJ _ _ ⟨tb,0,none⟩ (.int .u64 s.D) rfl rfl rfl (fun w h=>by simp [go_sem,h]) (fun w h=>h.2.cell 0) ?_;refine Qe ?_;refine GN ?_;refine YJ _ _ ⟨tb,1,none⟩ (.int .u64 s.P) rfl rfl rfl (fun w h=>by simp [go_sem,h]) (fun w h=>h.2.cell 1) ?_;refine Qe ?_;refine GN ?_;refine YJ _ _ ⟨tb,2,none⟩ (.int .u64 s.B) rfl rfl rfl (fun w h=>by simp [go_sem,h]) (fun w h=>h.2.cell 2) ?_;refine Qe ?_;refine BN ?_;refine Zfw ?_;refine Qe ?_;refine BN ?_;refine YJ _ _ ⟨q.e,27,none⟩ (.pointer (some ⟨a.p,0,none⟩)) rfl rfl rfl (fun w h=>by simp [go_sem,h]) (fun w h=>h.1.cell 27) ?_;refine Qe ?_;refine BN ?_;refine Zfv ?_;refine Qe ?_;refine BN ?_;refine Zfv ?_;refine Qe ?_;refine BN ?_;refine Zcq ?_;refine Qe ?_;refine BN ?_;refine Zcp ?_;refine Qe ?_;refine BN ?_;refine YJ _ _ ⟨q.e,23,none⟩ (.pointer (some ⟨a.k,0,none⟩)) rfl rfl rfl (fun w h=>by simp [go_sem,h]) (fun w h=>h.1.cell 23) ?_;refine Qe ?_;refine BN ?_;refine YJ _ _ ⟨q.e,25,none⟩ (.pointer (some ⟨a.m,0,none⟩)) rfl rfl rfl (fun w h=>by simp [go_sem,h]) (fun w h=>h.1.cell 25) ?_;refine Qe ?_;refine BN ?_;refine YJ _ _ ⟨q.e,26,none⟩ (.pointer (some ⟨a.u,0,none⟩)) rfl rfl rfl (fun w h=>by simp [go_sem,h]) (fun w h=>h.1.cell 26) ?_;refine Qe ?_;refine Qc ?_;have E0:=Za H2.out.drew;clear H2;generalize W2.drew=U0 at*;refine hfO (i:=3) ?_;refine JZ #[.pointer (some ⟨q.e,20,none⟩)] Tryz.call53 ((dJ E0.out).mono ?_);rintro e _ ⟨rfl,rfl⟩;refine ⟨_,rfl,⟨E0.out.blk,E0.out.blkAt (r:=N+1) ZJ Ze (by exact xput_same)⟩,?_⟩;refine hfO (i:=7) ?_;refine JG ?_;refine JZ #[.pointer (some ⟨q.e,20,none⟩)] Tryz.call54 ((Bd E0.out HX.out.1.b0 HX.out.1.b1 HX.out.1.l HX.out.1.q).mono ?_);rintro e _ ⟨rfl,m1,rfl⟩;have E2:=Za (E0.out.drewN m1);clear E0;generalize U0.drewN m1=U2 at*;refine ⟨_,rfl,⟨E2.out.blk,E2.out.blkAt (r:=N+1) ZJ Ze (by exact xput_same)⟩,?_⟩;refine hfO (i:=13) ?_;refine JG ?_;refine JZ #[.pointer (some ⟨a.r,0,none⟩)] Tryz.call55 ((Eg.all E2.out).mono ?_);rintro e U3 ⟨v1,rfl,h3,_⟩;obtain ⟨a1,c1,rfl⟩:=XC (h3.row (r:=N+2) ZJ Ze xput_same);have E3:=Za h3;clear h3 E2;refine ⟨_,rfl,⟨E3.out.blk,E3.out.blkAt (r:=N+1) ZJ Ze Ug⟩,?_⟩;refine hfO (i:=25) ?_;refine JG ?_;refine JZ #[.pointer (some ⟨a.r,0,none⟩)] Tryz.call56 ((Eg.active E3.out).mono ?_);rintro e _ ⟨rfl,rfl⟩;refine ⟨_,rfl,⟨E3.out.blk,E3.out.blkAt (r:=N+1) ZJ Ze Ug⟩,?_⟩;refine hfO (i:=31) ?_;refine JG ?_;refine JZ #[.pointer (some ⟨a.p,0,none⟩)] Tryz.call57 ((Eg.pall E3.out HX.out.2.2.1).mono ?_);rintro e U5 ⟨v2,rfl,h5⟩;obtain ⟨a2,c2,rfl⟩:=XC (h5.row (r:=N+2+1) ZJ Ze xput_same);have E5:=Za h5;clear h5 E3;refine ⟨_,rfl,⟨E5.out.blk,E5.out.blkAt (r:=N+1) ZJ Ze Ij⟩,?_⟩;refine hfO (i:=37) ?_;refine JG ?_;refine JZ #[.pointer (some ⟨a.n,0,none⟩),.int .i64 0] Tryz.call58 ((Eg.lall E5.out 0).mono ?_);rintro e U6 ⟨v3,rfl,h6⟩;rw [show U4 s.F s.W 0=s.F from rfl] at h6;obtain ⟨a3,c3,rfl⟩:=XC (h6.row (r:=N+2+1+1) ZJ Ze xput_same);have E6:=Za h6;clear h6 E5;refine ⟨_,rfl,⟨E6.out.blk,E6.out.blkAt (r:=N+1) ZJ Ze (by rw [xput_ne Ze,xput_ne Ze,xput_ne Ze,xput_same])⟩,?_⟩;refine hfO (i:=43) ?_;refine JG ?_;refine JZ #[.pointer (some ⟨a.n,0,none⟩),.int .i64 1] Tryz.call58 ((Eg.lall E6.out 1).mono ?_);rintro e U7 ⟨v4,rfl,h7⟩;rw [show U4 s.F s.W 1=s.W from rfl] at h7;obtain ⟨a4,c4,rfl⟩:=XC (h7.row (r:=N+2+1+1+1) ZJ Ze xput_same);have E7:=Za h7;clear h7 E6;refine ⟨_,rfl,⟨E7.out.blk,E7.out.blkAt (r:=N+1) ZJ Ze jh⟩,?_⟩;refine hfO (i:=49) ?_;refine JG ?_;refine JZ #[.pointer (some ⟨q.d,0,none⟩)] Tryz.call59 ((Eg.mrow E7.out HX.out.2.2.2.1).mono ?_);rintro e U8 ⟨v5,rfl,h8⟩;obtain ⟨a5,c5,rfl⟩:=XC (h8.row (r:=N+2+1+1+1+1) ZJ Ze xput_same);have E8:=Za h8;clear h8 E7;refine ⟨_,rfl,⟨E8.out.blk,E8.out.blkAt (r:=N+1) ZJ Ze (by rw [xput_ne Ze,xput_ne Ze,xput_ne Ze,xput_ne Ze,xput_ne Ze,xput_same])⟩,?_⟩;refine hfO (i:=55) ?_;refine JG ?_;refine JZ #[.pointer (some ⟨q.q,0,none⟩)] Tryz.call60 ((Eg.trow E8.out HX.out.2.2.2.2).mono ?_);rintro e U9 ⟨v6,rfl,h9⟩;obtain ⟨a6,c6,rfl⟩:=XC (h9.row (r:=N+2+1+1+1+1+1) ZJ Ze xput_same);have E9:=Za h9;clear h9 E8;refine ⟨_,rfl,⟨E9.out.blk,E9.out.blkAt (r:=N+1) ZJ Ze MV⟩,?_⟩;refine hfO (i:=61) ?_;refine JG ?_;refine JZ #[.pointer (some ⟨a.k,0,none⟩)] Tryz.call61 ((Eg.at_ E9.out).mono ?_);rintro e _ ⟨rfl,rfl⟩;refine ⟨_,rfl,⟨E9.out.blk,E9.out.blkAt (r:=N+1) ZJ Ze MV⟩,?_⟩;refine hfO (i:=67) ?_;refine JG ?_;refine JZ #[.pointer (some ⟨a.m,0,none⟩)] Tryz.call62 ((Eg.carry E9.out).mono ?_);rintro e _ ⟨rfl,m10,rfl⟩;have tE:=Za (E9.out.drewN m10);clear E9;generalize U9.drewN m10=U11 at*;refine ⟨_,rfl,⟨tE.out.blk,tE.out.blkAt (r:=N+1) ZJ Ze MV⟩,?_⟩;refine hfO (i:=73) ?_;refine JG ?_;refine JZ #[.pointer (some ⟨a.u,0,none⟩)] Tryz.call63 ((Eg.ulen tE.out HX.out.2.1).mono ?_);rintro e U12 ⟨rfl,TR⟩;have zW:=Za TR;clear TR tE;refine ⟨_,rfl,⟨zW.out.blk,zW.out.blkAt (r:=N+1) ZJ Ze MV⟩,?_⟩;refine JG ?_;refine FX (fun w'=>Blk w' q.e 107 (Uw c a q)∧Blk w' tb 132 #[.int .u64 s.D,.int .u64 s.P,.int .u64 s.B]) (m:=2) (f:=1) [74] (?_) ?_
 ·exact ⟨zW.out.blk,zW.out.blkAt (r:=N+1) ZJ Ze MV⟩
 refine Kg ?_;refine FV ?_;refine iP 51 _ Ye rfl (J9 s (Yy s.V) L.length (.slice a1 s.V.length c1) (.slice a2 s.pd.length c2) (.slice a3 s.F.length c3) (.slice a4 s.W.length c4) (.slice a5 s.mg.length c5) (.slice a6 s.pt.length c6)) Ye ?_;refine Qe ?_;refine Qc ?_;generalize Fi:J9 s (Yy s.V) L.length (.slice a1 s.V.length c1) (.slice a2 s.pd.length c2) (.slice a3 s.F.length c3) (.slice a4 s.W.length c4) (.slice a5 s.mg.length c5) (.slice a6 s.pt.length c6)=cs;have pB:cs.all (·.oneCell')=true:=by rw [←Fi]; exact Zcd _ _ _ _ _ _ _ _ _ _ _ _ _ _ _ _ _ _ _ _ _
 have mK:Hid ((Tryz.prog.info? 51).map (·.size)=some cs.size):=Za (by rw [←Fi]; exact qk);have zX:=Za Fi;clear Fi;have hB:=zW.out.blkAt (r:=N) HN.out Ze Ii;refine hfO (i:=75) ?_;have Zbk:snZ.size=cs.size:=by rw [←zX.out]; rfl
 refine YD rfl rfl (X9 _ _ _ rfl b cs rfl rfl 51 _ hB mK.out Zbk pB ?_);have h9:=zW.out.setr (r:=N) HN.out Ze Ii (cs':=cs) (QS hB _) (XK (S:=fun i=>i=b) (ZH _ _) (.inl rfl) _);have HB:=Za hB;have E9:=Za h9;refine ⟨⟨h9.blk,h9.blkAt (r:=N+1) ZJ Ze Ii⟩,?_⟩;clear h9 hB zW;refine ⟨by kernel_rfl,Yr ?_⟩;refine JG ?_;go_wp2_with fail;refine ZL (v:= .agg cs) (ZO (fn:=Tryz.f19) rfl _ _ b 51 _ (0,0) _ rfl (Z6 _ _ _ _ _ _ HB.out) Tryz.underlying51 rfl mK.out) rfl ?_;refine ⟨⟨a1,_,c1⟩,⟨a2,_,c2⟩,⟨a3,_,c3⟩,⟨a4,_,c4⟩,⟨a5,_,c5⟩,⟨a6,_,c6⟩,by rw [←zX.out]; rfl,?_⟩;have hN:=HN.out;refine E9.out.remap Ze (fun k=>if k < N then k else k+2) (fun k hk=>if_pos Ze) (fun k hk=>by split <;> omega) (fun k hk=>by split <;> omega) (fun i j hi hj e=>by split at e <;> split at e <;> omega) fun k h1 h2=>?_
 by_cases hk:k < N
 ·rw [if_pos hk];unfold snX;rw [xput_ne Ze,xput_ne Ze,xput_ne Ze,xput_ne Ze,xput_ne Ze,xput_ne Ze,xput_ne Ze,xput_ne Ze,xput_ne Ze,xput_ne Ze,xput_ne Ze,xput_ne Ze,xput_ne Ze,xput_ne Ze,xput_ne Ze]
 ·rw [if_neg hk];have hc:k=N∨k=N+1∨k=N+2∨k=N+3∨k=N+4∨k=N+5:=by omega
  unfold snX
  rcases hc with rfl | rfl | rfl | rfl | rfl | rfl
  ·rw [xput_ne Ze,xput_ne Ze,xput_ne Ze,xput_ne Ze,xput_ne Ze,xput_same,xput_ne Ze,xput_ne Ze,xput_ne Ze,xput_ne Ze,xput_ne Ze,xput_ne Ze,xput_same]; rfl
  ·rw [xput_ne Ze,xput_ne Ze,xput_ne Ze,xput_ne Ze,xput_same,xput_ne Ze,xput_ne Ze,xput_ne Ze,xput_ne Ze,xput_ne Ze,xput_same]; rfl
  ·rw [xput_ne Ze,xput_ne Ze,xput_ne Ze,xput_same,xput_ne Ze,xput_ne Ze,xput_ne Ze,xput_ne Ze,xput_same]; rfl
  ·rw [xput_ne Ze,xput_ne Ze,xput_same,xput_ne Ze,xput_ne Ze,xput_ne Ze,xput_same]; rfl
  ·rw [xput_ne Ze,xput_same,xput_ne Ze,xput_ne Ze,xput_same]; rfl
  ·rw [xput_same,xput_ne Ze,xput_same]; rfl
end
end
end Go.Proofs.YtianiiijaopdpaaGreat
