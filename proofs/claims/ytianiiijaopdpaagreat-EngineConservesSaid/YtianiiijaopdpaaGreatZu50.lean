/- Part 50 of 58: Tik Ops App New kB Snap. -/
import Derived.Test.YtianiiijaopdpaaGreatZu00
import Derived.Test.YtianiiijaopdpaaGreatZu20
import Derived.Test.YtianiiijaopdpaaGreatZu49
namespace Go.Proofs.YtianiiijaopdpaaGreat
set_option linter.unusedVariables false
set_option linter.unusedSimpArgs false
set_option maxRecDepth 100000
set_option maxHeartbeats 8000000
open _root_.And renaming intro → Zl
open _root_.Array renaming all_eq_true_iff_forall_mem → ZV
open _root_.Go.Proofs.YtianiiijaopdpaaGreat.As renaming row → Qc
open _root_.Go.RowKit renaming Below → Zt
open _root_.Go.RowKit.Below renaming refl → Zr
open _root_.Go.Proofs.YtianiiijaopdpaaGreat.Zy renaming new → Zw, setRow → QS
open _root_.Go renaming Calls → Zi, Operand → YI, Program → YZ, TypeId → ZT, Value → Zo, World → Zc, bodyPost_ret → ZL, execOp → Xr, results_cell_row → ZU, setRow_heap → Yc, wpList → YU, wpList_load_row → Zn, wpList_plain → QM, wpList_store_row → Zm, wpQuiet → ZB, wpQuiet_nil → Zj, wp_store_row → X8
open _root_.Iff renaming rfl → Ve
open _root_.Go.Instr renaming lookup → JX
open _root_.Go.Proofs.YtianiiijaopdpaaGreat.Kept renaming refl → ZM, setRow → Xy
open _root_.Go.Lib renaming hid → Za
open _root_.List renaming getElem?_eq_some_iff → Zh, length_append → ZN, mem_cons → Z6, mem_toArray → UC, not_mem_nil → Ya
open _root_.Nat renaming le_refl → Zg, le_trans → Yk
open _root_.Go.NoPanic renaming normal → ZH
open _root_.Go.Oper renaming wp → Q8
open _root_.Go.Proofs.YtianiiijaopdpaaGreat.Pm renaming row → QW
open _root_.Go.Result renaming andThen_ok → ZW
open _root_.Go.Sem renaming run_bind → Yl, run_pure → YJ
open _root_.Go.Proofs.Tryz renaming prog → Zb, underlying24 → ZC, underlying3 → Yg, underlying37 → ZS, underlying42 → Yf
open _root_.Go.World renaming setRow_alloc_new → Zu
theorem jY {G:Prop}(h:G:=by show _≤(s.V.set _ _).length; rw [List.length_set]; omega) :G:=h
theorem jX {G:Prop}(h:G:=by unfold rowsX; rw [xput_ne Ze,xput_ne Ze,xput_same]) :G:=h
theorem jU {G:Prop}(h:G:=by rw [xput_ne Ze,xput_ne Ze,xput_ne Ze,xput_ne Ze,xput_same]) :G:=h
theorem IN {G:Prop}(h:G:=by have:=F4.out.out; rwa [HB.out] at this) :G:=h
theorem IM {G:Prop}(h:G:=by rw [xput_ne Ze,xput_ne Ze,xput_same]) :G:=h
theorem II {G:Prop}(h:G:=by rw [xput_ne Ze,xput_ne Ze,xput_ne Ze,xput_ne Ze,xput_ne Ze,xput_ne Ze,xput_ne Ze,xput_same]) :G:=h
theorem FK {G:Prop}(h:G:=by simp only [opTab,List.mem_cons,true_or,or_true]) :G:=h
theorem M0 {G:Prop}(h:G:=by rw [xput_ne Ze,xput_ne Ze,xput_ne Ze,xput_ne Ze,xput_ne Ze,xput_ne Ze,xput_same]) :G:=h
theorem Zdj {G:Prop} (h:G:=by
  rw [show (((c 1).toNat:Nat) :Int)=c 1 by omega] at this;refine this.mono fun e w' ⟨he,g1⟩=>?_
  subst g1;refine ⟨_,fun i=>i=w.heap.size,he,ring_new ?_ Ze Ze,fun i hi=>by omega,(Below.refl _ _).alloc (Nat.le_refl _) _⟩;rw [show (((c 1).toNat:Nat) :Int)=c 1 by omega];exact Zy.new _ _ _) :G:=h
theorem Zgu {G:Prop} (h:G:=by
  have:k=0∨k=1∨k=2∨k=3∨k=4∨k=5∨k=6∨k=7∨k=8∨k=9∨k=10:=by omega
  rcases this with rfl | rfl | rfl | rfl | rfl | rfl | rfl | rfl | rfl | rfl | rfl <;> decide) :G:=h
theorem ZgX {G:Prop} (h:G:=by
  unfold exO
  split
  ·exact h.mg.mono jY fun _ h=>h
  ·exact h.mg) :G:=h
theorem ZaF {G:Prop} (h:G:=by
  split at e <;> split at e <;>(try split at e)<;>(try split at e)<;> omega) :G:=h
section
open Go Go.RowKit Go.Deep
def AF (r:Rp)(ia:Option Addr)(ca:Nat)(ip:Option Addr)(cp:Nat) :Rc:=⟨r.kd,r.cd,r.ix,r.bl,r.ep,r.dl,ia,r.la.length,ca,ip,r.lp.length,cp,r.vs⟩
def rowsX (Z:Nat→Zc→(Nat→Prop)→Prop)(N:Nat)(r:Rp)(ia:Option Addr)(ca:Nat)(ip:Option Addr)(cp:Nat) :Nat→Zc→(Nat→Prop)→Prop:=
 ZI (ZI Z N (YP 71 3 (.slice ia r.la.length ca) r.la.length (Yx Qc r.la))) (N+1) (YP 61 3 (.slice ip r.lp.length cp) r.lp.length (Yx QW r.lp))
def nZ (N:Nat)(w0:Ez)(c:Nat→Int)(a:Pl)(q:Ql)(Z:Nat→Zc→(Nat→Prop)→Prop)(x:Rp × Sg)(L:List QO)(e:Ending)(w:Zc) :Prop:=
 ∃ia ca ip cp,e= .returned (.agg (Zz (AF x.1 ia ca ip cp)))∧Eg (N+2) w0 w c a q (rowsX Z N x.1 ia ca ip cp) x.2 L
section
variable {N:Nat} {w0:Ez} {w w' w1:Zc} {c cf:Nat→Int} {a:Pl} {q:Ql} {X Z:Nat→Zc→(Nat→Prop)→Prop} {s s':Sg} {L L':List QO} {k:Nat}
theorem Eg.ep (h:Eg N w0 w c a q Z s L)(x:Int) :Eg N w0 w c a q Z { s with ep:=x} L:=h
theorem nZ.of {x:Rp × Sg}{e:Ending}(h:uQ N w0 c a q Z x L e w)(h1:x.1.la=[])(h2:x.1.lp=[]) :nZ N w0 c a q Z x L e w:=by
 obtain ⟨he,hg⟩:=h;refine ⟨none,0,none,0,?_,?_⟩
 ·rw [he]; unfold rcP AF; rw [h1,h2]; rfl
 ·unfold rowsX; rw [h1,h2];exact (hg.nil 71 3).nil 61 3
theorem Eg.growS {ops:Array Oper}{rest:List Oper}{o:Oper}{d:Act}{Q:Exit→Act→Zc→Prop}(h:Eg N w0 w c a q Z s L){r:Nat}(Gj:11≤r)(hr:r < N){e:ZT}{size n:Nat}{v:Zo}{xs:List Zo}(hx:Z r=YP e size v n xs)
  (BU:o.guard=none) (sl x:YI) (t:ZT) (ho:o.op= .call { callee:= .builtin .append,args:= #[sl,x],argTypes:= #[t,t]}) (i:TypeInfo) (z:Zo) (bytes:Nat) (ht:Tryz.prog.underlying t=some (.slice e)) (hi:Tryz.prog.info? e=some i) (hz:i.zero=some z)
  (Hw:i.size=size) (Hu:i.bytes=bytes) (qC:z.cells.size=size) (Du:0 < size) (hs:d.eval sl=v) {r2:Nat} (h112:11≤r2) (MF:r2 < N) {A:Option Addr} {m cp:Nat} {ys:List Zo} (wG:Z r2=YP e size (.slice A m cp) m ys) (zS:d.eval x= .slice A m cp) (hl:ys.length=m*size) (h1: ∀u ∈ ys,u.oneCell'=true)
  (nK:n+m≤maxLen) (BL:(n+m)*bytes≤140737488355328)
  (K: ∀v' w',Eg N w0 w' c a q (ZI Z r (YP e size v' (n+m) (xs++ys))) s L→YU Zb ops Q rest (d.put o.dst v') w') :YU Zb ops Q (o::rest) d w:=by
 have ho1:=h.row Gj hr hx;have tS:=h.row h112 MF wG;refine QL w BU sl x t ho 0 e i z size bytes ht hi hz Hw Hu qC Du v n xs hs ho1 A m cp ys zS hl (fun h0=>?_) h1 nK BL (Nat.zero_le _) fun v' w' g1 g2 g4=>?_
 ·rcases tS.2 with ⟨e1,_⟩ | ⟨g1,cp1,cur,e1,_⟩
  ·injection e1 with _ e2 _; omega
  ·injection e1 with e1 _ _;refine ⟨_,e1,fun j u hj=>?_⟩;subst e1;exact tS.cells rfl j u hj
 ·refine K v' w' (h.own Gj hr hx stays_row fun S hS=>⟨_,row_zero g1,fun j hj=>?_,Kept.of_grown g2 fun j hj=>(hS.2 j).2 hj.symm⟩);exact ZgT
def tkT (c:Nat→Int)(t:Sg) :Sg:= { t with V:=F8 c t,P:=t.P+Ux (Kf (c 5) t.V (t.pt.take (EC c t))),pt:=t.pt.drop (EC c t)}
theorem ZfZ (hc:GE c)(ZbA:c 0≤100)(hi:Inv c k s) :Wh c (tkT c s):=by
 obtain ⟨g,_,_⟩:=LV hc hi;have hm:0≤c 5:=by have:=hc.m5; omega
 have Gm:=FH (c 5) (s.pt.take (EC c s)) s.V;obtain ⟨_,h2⟩:=DJ (c 5) hm (s.pt.take (EC c s)) s.V (fun r hr=>hi.ptf r (List.mem_of_mem_take hr)) hi.fits;have h3:=NS (fun p hp=>(h2 p hp).1);have e1:ZA (F8 c s)=ZA s.V - Ux (Kf (c 5) s.V (s.pt.take (EC c s))):=Gm;have g1:=hi.sum;have g2:=hi.p0;have g3:=hi.cap;have g4:=hi.len;have g5:=hi.cu;have g6:=hc.a4;have g7:=g.len;refine ⟨g.vok,?_,?_,hi.b0,hi.d1,?_,by omega,?_,?_⟩
 ·show ZA (F8 c s)+(s.P+_)+s.B=s.D; omega
 ·show 0≤s.P+_; omega
 ·show s.D -(s.P+_) - s.B≤c 4; omega
 ·show s.cu≤100; omega
 ·show (F8 c s).length≤100; omega
theorem yl (c:Nat→Int)(s:Sg) :(tkP c s).length≤EC c s:=by
 exact Zad
theorem ZeW (hc:GE c)(hq8:c 8≤18446744073709551615)(ZbA:c 0≤100)(hi:Inv c k s)(hk:k+1≤1000000)(hr:XU s.ep s.V L)(qi:Cd s.V s.mg)(h:Eg N w0 w c a q Z s L)(o:Oq)(ho:o.kd=7) :
  Zi Zb 89 #[.pointer (some ⟨q.e,0,none⟩),.agg (ZJ o)] w (nZ N w0 c a q Z (nw c s) (zW c s L)):=by
 have hN:=h.low;have hO:=Dz h o;have bk0:=hi.bk0;have bk1:=hi.bk1;obtain ⟨t,ht⟩ : ∃t,L4 c s=t:=⟨_,rfl⟩;obtain ⟨Lt,hLt⟩ : ∃Lt,zW c s L=Lt:=⟨_,rfl⟩;obtain ⟨A,hA⟩ : ∃A,nxO c s=A:=⟨_,rfl⟩;obtain ⟨B,hB⟩ : ∃B,((s.bk+1)%c 13==0)=B:=⟨_,rfl⟩;have HAd:Hid (∀wx M Z,Eg M w0 wx c a q Z s L→Zi Zb 134 #[.pointer (some ⟨q.e,20,none⟩)] wx fun e w'=>e= .returned (.bool B)∧Eg M w0 w' c a q Z { s with bk:=s.bk+1} L):=Za fun wx M Z hx=>by
  have:=o8 hx bk0 Ze hc.g.len0;rw [hB] at this;exact this
 have HBd:Hid (B=true→ ∀wx M Z,Eg M w0 wx c a q Z { s with bk:=s.bk+1} L→Zi Zb 135 #[.pointer (some ⟨q.e,0,none⟩)] wx fun e w'=> ∃v,e= .returned v∧Eg (M+1) w0 w' c a q (ZI Z M (YP 71 3 v A.length (Yx Qc A))) t Lt):=Za fun hb wx M Z hx=>by
  rw [hb] at hB;have hm:(s.bk+1)%c 13=0:=by simpa using hB
  have:=lj hc hq8 hi Ze hr hm qi (hx.ep (s.ep+1));rw [←ht,←hLt,←hA];unfold L4 zW nxO;rw [if_pos hm,if_pos hm,if_pos hm];exact this
 have HNb:Hid (B=false→t= { s with bk:=s.bk+1}∧Lt=L∧A=[]):=Za fun hb=>by
  rw [hb] at hB;have hm: ¬(s.bk+1)%c 13=0:=by simpa using hB
  rw [←ht,←hLt,←hA];unfold L4 zW nxO;rw [if_neg hm,if_neg hm,if_neg hm];exact ⟨rfl,rfl,rfl⟩
 have zH:Inv c (k+1) t:=by rw [←ht]; exact OE hc hi Ze
 have hF:Hid (nw c s=(⟨7,0,-1,t.bk,t.ep,-1,A,Rm c t,(EC c t:Nat)+(nt c t:Nat)⟩,IA c t)):=Za (by unfold nw; rw [ht,hA]);have HPt:Hid (∀wx M Z,Eg M w0 wx c a q Z t Lt→Zi Zb 136 #[.pointer (some ⟨q.e,0,none⟩)] wx fun e w'=> ∃v,e= .returned (.tuple #[v,.int .i64 ((EC c t:Nat) :Int)])∧Eg (M+1) w0 w' c a q (ZI Z M (YP 61 3 v (tkP c t).length (Yx QW (tkP c t)))) (tkT c t) Lt):=Za fun wx M Z hx=>Zbs hc zH hx
 have HPw:Hid (∀wx M Z,Eg M w0 wx c a q Z (tkT c t) Lt→Zi Zb 137 #[.pointer (some ⟨q.e,0,none⟩),.int .i64 (c 14 -(EC c t:Nat)),.int .i64 (c 15 -((tkP c t).length:Nat))] wx fun e w'=> ∃v,e= .returned (.tuple #[v,.int .i64 ((nt c t:Nat) :Int)])∧Eg (M+1) w0 w' c a q (ZI Z M (YP 61 3 v (Qf t.ep (F8 c t) (AQ c t)).length (Yx QW (Qf t.ep (F8 c t) (AQ c t))))) (IA c t) Lt):=Za fun wx M Z hx=>by
  obtain ⟨_,hn,hrp⟩:=LV hc zH;have htm:=zH.tm hc hk;have:=vG (s:=tkT c t) hx ⟨htm.b0,htm.b1,htm.l,htm.q⟩ (ZfZ hc ZbA zH) (vs:=c 14 -(EC c t:Nat)) (p:=c 15 -((tkP c t).length:Nat)) rfl (F:=AQ c t) rfl hn hrp;refine this.mono fun e w' ⟨v,he,h1⟩=>⟨v,he,?_⟩
  rw [Sy];have e2:IA c t= { tkT c t with V:=Ji t.ep (F8 c t) (AQ c t),P:=t.P+Ux (Kf (c 5) t.V (t.pt.take (EC c t)))+JJ (Qf t.ep (F8 c t) (AQ c t)),cu:=DS (F8 c t).length t.cu (nt c t)}:=by
   unfold IA tkT Rm;rw [Lr];unfold tkP;rw [jN,←Int.add_assoc]
  rw [e2];exact h1
 obtain ⟨n,hn⟩ : ∃n,EC c t=n:=⟨_,rfl⟩;obtain ⟨m,hm⟩ : ∃m,nt c t=m:=⟨_,rfl⟩;obtain ⟨P,hP⟩ : ∃P,tkP c t=P:=⟨_,rfl⟩;obtain ⟨W,hW⟩ : ∃W,Qf t.ep (F8 c t) (AQ c t)=W:=⟨_,rfl⟩;have hFF:Rm c t=P++W:=by unfold Rm; rw [hP,hW]
 have ZfK:=AR hc t;have hPl:=yl c t;rw [hFF] at hF;rw [hn,hm] at hF;rw [hn] at HPt HPw;rw [hP] at HPt HPw;rw [hm,hW] at HPw;rw [hn,hm,hFF,ZN] at ZfK;rw [hP,hn] at hPl;have hg:=hc.g;have g1:=hg.part;have g2:=hg.vis0;have g3:=hg.pay0;have g4:=hg.vis1;have g5:=hg.pay1;have hn4:n≤4096:=by omega
 have Ze4:P.length≤4096:=by omega
 have hn16:(n:Int)≤c 16:=by rw [←hn]; unfold EC Uw; omega
 have PQ:0≤c 14 -(n:Int)∧c 14 -(n:Int)≤4096:=by omega
 have MG:0≤c 15 -(P.length:Int)∧c 15 -(P.length:Int)≤4096:=by omega
 have hmm:(n:Int)+(m:Nat)≤4096:=by omega
 have hWl:W.length≤4096:=by omega
 have htm:=zH.tm hc hk;have HN:=Za hN;have HLt:=Za hLt;have HX:=Za (Zl ho (Zl htm (Zl PQ (Zl MG (Zl hmm (Zl hWl (Zl Ze4 hn4)))))));have x14: ∀w M Z,Eg M w0 w c a q Z t Lt→True:=fun _ _ _ _=>trivial
 clear hc hq8 ZbA hi hk hr qi h ho hN bk0 bk1 hLt hA zH hn hm hP hW hFF ZfK hPl hg g1 g2 g3 g4 g5 hn16 PQ MG hmm hWl htm x14 ht hB hn4 Ze4;go_enter Tryz.func89,Tryz.ntmps89;go_upto_region 1 with (fail);generalize hW:(w.alloc (.cells (ZJ o) 37)).alloc (.cells _ 42)=V0;have eW:(w.alloc (.cells (ZJ o) 37)).alloc (.cells (Zz Gb) 42)=V0:=hW;rw [eW] at hO;generalize w.heap.size=b at*;have HO:=Za hO;clear hW eW hO;go_wp2_with fail;refine (HAd.out _ _ _ HO.out).mono ?_;rintro e w2 ⟨rfl,h2⟩;have E2:=Za h2;clear h2 HO HAd;go_upto_if 14 with (fail);go_cut [5] from 15 to 16 (fun s5 wx=> ∃(ia:Option Addr) (ca:Nat),s5= .slice ia A.length ca∧Hid (Eg (N+2+1) w0 wx c a q (ZI (ZI (ZI Z N (YR b 37 (ZJ o))) (N+1) (YR (b+1) 42 (Zz Gb))) (N+2) (YP 71 3 (.slice ia A.length ca) A.length (Yx Qc A))) t Lt))
 case first=>
  cases B
  ·obtain ⟨e1,e2,e3⟩:=HNb.out rfl;have E3:Hid (Eg (N+2+1) w0 w2 c a q (ZI (ZI (ZI Z N (YR b 37 (ZJ o))) (N+1) (YR (b+1) 42 (Zz Gb))) (N+2) (YP 71 3 (.slice none A.length 0) A.length (Yx Qc A))) t Lt):=Za (by
    rw [e1,e2,e3];exact E2.out.nil 71 3)
   have e4:Hid (A.length=0):=Za (by rw [e3]; rfl);clear HBd HNb E2 hF HPt HPw HX e1 e2 e3;go_wp2_with fail;go_meet;exact ⟨none,0,by rw [e4.out],E3⟩
  ·have HB:=Za (HBd.out rfl _ _ _ E2.out);clear HBd HNb E2 hF HPt HPw HX;go_wp2_with fail;refine HB.out.mono ?_;rintro e w3 ⟨v,rfl,h3⟩;obtain ⟨ia,ca,rfl⟩:=XH (h3.row (r:=N+2) ZQ Ze xput_same);have E3:=Za h3;clear h3 HB;go_wp2_with fail;go_meet;exact ⟨ia,ca,rfl,E3⟩
 case rest=>
  obtain ⟨ia,ca,rfl,E3⟩:=hcut;clear HBd HNb E2;generalize wc=w3 at*;go_wp2_with fail;refine (HPt.out _ _ _ E3.out).mono ?_;rintro e w4 ⟨v,rfl,h4⟩;obtain ⟨ip,cp,rfl⟩:=XH (h4.row (r:=N+2+1) ZQ Ze xput_same);have E4:=Za h4;clear h4 HPt E3;go_wp2_with fail;refine PG (fun w'=>Zy w' q.e 107 (Un c a q)) 6 [0,1,2,3,4,5,6,7,8,9,10,11,12,13,14,15] (?_) ?_
  ·exact E4.out.drew.blk
  simp only [qF,qH];show ZB _ _ _ _ [_,_,_,_,_,_,_,_,_,_,_,_,_,_,_,_] _;iterate 5 (go_big_quiet_step ((intros; rfl)))
  refine Yw _ _ ⟨q.e,14,none⟩ (.int .i64 (c 14)) rfl rfl rfl (fun w h=>by simp [go_sem,h]) (fun w h=>h.cell 14) ?_;simp only [qB];iterate 1 (go_big_quiet_step ((intros; rfl)))
  iterate 1 (go_big_quiet_step ((intros; rfl)))
  iterate 4 (go_big_quiet_step ((intros; rfl)))
  refine Yw _ _ ⟨q.e,15,none⟩ (.int .i64 (c 15)) rfl rfl rfl (fun w h=>by simp [go_sem,h]) (fun w h=>h.cell 15) ?_;simp only [qB];iterate 3 (go_big_quiet_step ((intros; rfl)))
  refine Zj ?_;have E5:=Za E4.out.drew;clear E4;generalize w4.drew=w5 at*;rw [IntWalk.wrap64_in (c 14 -(n:Int)) (by have:=HX.out.2.2.1; omega),IntWalk.wrap64_in (c 15 -(P.length:Int)) (by have:=HX.out.2.2.2.1; omega)];refine Qt (i:=16) ?_;refine JM #[.pointer (some ⟨q.e,0,none⟩),.int .i64 (c 14 -(n:Int)),.int .i64 (c 15 -(P.length:Int))] Tryz.call137 ((HPw.out _ _ _ E5.out).mono ?_);rintro e w6 ⟨v,rfl,h6⟩;obtain ⟨iw,cw,rfl⟩:=XH (h6.row (r:=N+2+1+1) ZQ Ze xput_same);have E6:=Za h6;have hB6:=h6.blk;refine ⟨_,rfl,hB6,?_⟩;clear h6 HPw E5;try simp only [qA]
  refine FR (fun w'=>Zy w' q.e 107 (Un c a q)) (m:=5) (f:=0) [17,18,19,20,21] (?_) ?_
  ·exact hB6
  simp only [qF,qH];show ZB _ _ _ _ [_,_,_,_,_] _;iterate 5 (go_big_quiet_step ((intros; rfl)))
  refine Zj ?_;clear hB6;refine ⟨by kernel_rfl,ZH ?_⟩;try simp only [qA]
  have Vv:=Za (E6.out.blkAt (r:=N) HN.out Ze jU);go_wp2_with (first | (refine Zn rfl 37 _ rfl b rfl 37 _ (0,0) _ Vv.out ZS rfl XV ?_));refine (DW E6.out (s:=IA c t) ⟨HX.out.2.1.b0,HX.out.2.1.b1,HX.out.2.1.l,HX.out.2.1.q⟩ o (-1) (-1)).mono ?_;rintro e w7 ⟨he,h7⟩;rw [show Bn o.kd (-1) (-1) (IA c t).bk (IA c t).ep=Bn 7 (-1) (-1) t.bk t.ep by rw [HX.out.1]; rfl] at he;subst he;have E7:=Za (h7.box (Zz (Bn 7 (-1) (-1) t.bk t.ep)) 42);clear h7 Vv E6;go_upto_region 7 with (first | (refine Zm rfl _ _ _ rfl w7.heap.size (Zz (Bn 7 (-1) (-1) t.bk t.ep)) rfl rfl 42 _ (heap_alloc_new w7 _) YS rfl (YC _) ?_; rw [Zu]));generalize w7.heap.size=z at*;generalize w7.alloc (.cells (Zz (Bn 7 (-1) (-1) t.bk t.ep)) 42)=W7 at*;have hB:=E7.out.blkAt (r:=N+2+1+1+1) ZQ Ze xput_same;have hc6:W7.cell? ⟨z,6,none⟩=some (.slice none 0 0):=hB.cell 6;have hf6:W7.frozen? ⟨z,6,none⟩=false:=hB.frozen 6;have h8:=E7.out.setc (r:=N+2+1+1+1) ZQ Ze xput_same 6 (.slice ia A.length ca);rw [Xg,show (Zz (Bn 7 (-1) (-1) t.bk t.ep)).setIfInBounds 6 (.slice ia A.length ca)=Zz ⟨7,0,-1,t.bk,t.ep,-1,ia,A.length,ca,none,0,0,0⟩ from rfl] at h8;have E8:=Za h8;clear hB h8 E7;go_upto_region 8 with (fail);generalize W7.setCell ⟨z,6,none⟩ (.slice ia A.length ca)=W8 at*;clear hc6 hf6;obtain ⟨j0,eZ,BM,Pg,p5⟩:=iM;have wg:(Yx QW W).length=W.length*3:=Bt Pm.row_len W;have qf: ∀u ∈ Yx QW W,u.oneCell'=true:=fun u hu=>by
   obtain ⟨x,_,hx⟩:=List.mem_flatMap.1 hu;exact Pm.row_one x u hx
  have HL:=Za (Zl wg qf);clear wg qf;go_upto_region 9 with (at_builtin; go_loud (refine Eg.growS E8.out (r:=N+2+1) (e:=61) (size:=3) (v:= .slice ip P.length cp) (n:=P.length) (xs:=Yx QW P) (A:=iw) (m:=W.length) (cp:=cw) (ys:=Yx QW W) ZQ Ze IM rfl _ _ 40 rfl j0 _ 24 Tryz.underlying40 eZ BM Pg p5 (Fq _) Xh rfl (r2:=N+2+1+1) ZQ Ze Ua rfl HL.out.1 HL.out.2 ?c2 ?c3 ?_))
  case c2=>unfold maxLen; have:=HX.out.2.2.2.2.2.1; exact kv
  case c3=>have:=HX.out.2.2.2.2.2.1; exact kv
  obtain ⟨F,hF9⟩ : ∃F,P++W=F:=⟨_,rfl⟩;rw [hF9] at hF;intro v9 w9 h9;have hPW:P.length+W.length=F.length:=by rw [←hF9,ZN]
  rw [←Ki,hF9,hPW] at h9;obtain ⟨i9,c9,rfl⟩:=XH (h9.row (r:=N+2+1) ZQ Ze xput_same);have hB:=h9.blkAt (r:=N+2+1+1+1) ZQ Ze Ua;have hc7:w9.cell? ⟨z,7,none⟩=some (.slice none 0 0):=hB.cell 7;have hf7:w9.frozen? ⟨z,7,none⟩=false:=hB.frozen 7;have Wd:=h9.setc (r:=N+2+1+1+1) ZQ Ze Ua 7 (.slice i9 F.length c9);rw [show (Zz ⟨7,0,-1,t.bk,t.ep,-1,ia,A.length,ca,none,0,0,0⟩).setIfInBounds 7 (.slice i9 F.length c9)=Zz ⟨7,0,-1,t.bk,t.ep,-1,ia,A.length,ca,i9,F.length,c9,0⟩ from rfl] at Wd;have yS:=Za Wd;clear hB h9 E8 Wd hPW hF9 HL;go_upto_region 9 with (fail);generalize w9.setCell ⟨z,7,none⟩ (.slice i9 F.length c9)=W10 at*;clear hc7 hf7;have hB:=yS.out.blkAt (r:=N+2+1+1+1) ZQ Ze xput_same;have hc8:W10.cell? ⟨z,8,none⟩=some (.int .i64 0):=hB.cell 8;have hf8:W10.frozen? ⟨z,8,none⟩=false:=hB.frozen 8;have Gj:=yS.out.setc (r:=N+2+1+1+1) ZQ Ze xput_same 8 (.int .i64 ((n:Int)+(m:Int)));rw [Xg,show (Zz ⟨7,0,-1,t.bk,t.ep,-1,ia,A.length,ca,i9,F.length,c9,0⟩).setIfInBounds 8 (.int .i64 ((n:Int)+(m:Int)))=Zz ⟨7,0,-1,t.bk,t.ep,-1,ia,A.length,ca,i9,F.length,c9,(n:Int)+(m:Int)⟩ from rfl] at Gj;have oa:=Za Gj;clear hB Gj yS;have jk:(n:Int)+(m:Int)≤4096:=HX.out.2.2.2.2.1;go_upto_region 10 with (fail);generalize W10.setCell ⟨z,8,none⟩ (.int .i64 ((n:Int)+(m:Int)))=W11 at*;clear hc8 hf8 jk;obtain ⟨R,hR⟩ : ∃R:Rc,(⟨7,0,-1,t.bk,t.ep,-1,ia,A.length,ca,i9,F.length,c9,(n:Int)+(m:Int)⟩ :Rc)=R:=⟨_,rfl⟩;have HR:=Za hR;rw [hR] at oa;clear hR;have HBz:=Za (oa.out.blkAt (r:=N+2+1+1+1) ZQ Ze xput_same);have Vs:=Za (oa.out.blkAt (r:=N+1) ZQ Ze M0);go_wp2_with (first | (refine Zn rfl 42 _ rfl z rfl 42 _ (0,0) _ HBz.out Yf rfl YS ?_) | (refine Zm rfl _ _ _ rfl (b+1) (Zz R) rfl rfl 42 _ Vs.out YS rfl (YC _) ?_));refine ZL (v:= .agg (Zz R)) (ZU (fn:=Tryz.f89) rfl _ _ (b+1) 42 _ (0,0) _ rfl (Yc _ _ _ _ _ _ Vs.out) Yf rfl YS) rfl ?_;rw [hF.out,HLt.out];refine ⟨ia,ca,i9,c9,by rw [←HR.out]; rfl,?_⟩;have We:=oa.out.setr (r:=N+1) ZQ Ze M0 (cs':=Zz R) (QS Vs.out _) (Xy (S:=fun i=>i=b+1) (ZM _ _) (.inl rfl) _);have hN:=HN.out;refine We.remap Ze (fun k=>if k=N then N+2 else if k=N+1 then N+2+1 else k) (fun k hk=>?_) (fun k hk=>?_) (fun k hk=>?_) (fun i j hi hj e=>?_) fun k h1 h2=>?_
  ·exact kh
  ·exact A5
  ·exact A5
  ·exact ZaF
  ·unfold rowsX
   by_cases Rd:k=N+1
   ·subst Rd;rw [xput_same,if_neg Ze,if_pos rfl,xput_ne Ze,xput_ne Ze,xput_same]
   ·rw [xput_ne Rd]
    by_cases bw:k=N
    ·subst bw;rw [xput_same,if_pos rfl,xput_ne Ze,xput_ne Ze,xput_ne Ze,xput_ne Ze,xput_ne Ze,xput_ne Ze,xput_same]
    ·rw [xput_ne bw,if_neg bw,if_neg Rd];rw [xput_ne Ze,xput_ne Ze,xput_ne Ze,xput_ne Ze,xput_ne Ze,xput_ne Ze,xput_ne Ze,xput_ne Ze,xput_ne Ze]
end
end
section
open Go Go.RowKit Go.Deep Go.Maps
section
variable {P:YZ} {ops:Array Oper} {rest:List Oper} {o:Oper} {a:Act} {w:Zc} {Q:Exit→Act→Zc→Prop}
theorem TR (BU:o.guard=none)(t:ZT)(ho:o.op= .makeMap t none)(h:YU P ops Q rest (a.put o.dst (.map (some w.heap.size))) (w.alloc (.map #[] 0))) :YU P ops Q (o::rest) a w:=
 QM BU fun _ hK=>TU t ho (hK _ _ h)
theorem BC (BU:o.guard=none)(x:YI)(ho:o.op= .move x)(v:Zo)(hv:a.eval x=v)(h:YU P ops Q rest (a.put o.dst v) w) :YU P ops Q (o::rest) a w:=
 QM BU fun _ hK=>by
  unfold Q8 Xr;simp only [ho,hv,YJ];exact hK _ _ h
theorem ec (BU:o.guard=none)(x:YI)(ho:o.op= .assign x)(v:Zo)(hv:a.eval x=v)(h:YU P ops Q rest (a.put o.dst v) w) :YU P ops Q (o::rest) a w:=
 QM BU fun _ hK=>by
  unfold Q8 Xr;simp only [ho,hv,YJ];exact hK _ _ h
theorem Dm (BU:o.guard=none)(f:FuncId)(x:YI)(ho:o.op= .makeFunc (.func f) #[x] #[])(v:Zo)(hv:a.eval x=v)(h:YU P ops Q rest (a.put o.dst (.func (.func f) #[v] #[])) w) :YU P ops Q (o::rest) a w:=
 QM BU fun _ hK=>by
  unfold Q8 Xr;simp [ho,hv,Instr.makeFunc];exact hK _ _ h
end
def uN (M:List (Zo × Zo))(k:Int) :Prop:= ∀p ∈ M,∃i:Int,p.1= .int .i64 i∧(Lit.int .i64 i).wf=true∧i≠k
section
variable {w0 w w':Zc} {b:Nat} {M:List (Zo × Zo)} {ops:Array Oper} {rest:List Oper} {o:Oper} {c:Act} {Q:Exit→Act→Zc→Prop}
theorem Dl (hT:Jk w b M)(hB:Zt w0.heap.size w0 w)(h0:w0.heap.size≤b)(BU:o.guard=none)(hd:o.dst=none)(m x v:YI)(k:Int)(u:Zo)(ho:o.op= .insert 118 m x v)(hm:c.eval m= .map (some b))(hx:c.eval x= .int .i64 k)(hv:c.eval v=u)(hk:(Lit.int .i64 k).wf=true)(hM:uN M k)
  (K: ∀w',Jk w' b ((.int .i64 k,u)::M)→Zt w0.heap.size w0 w'→YU Zb ops Q rest c w') :YU Zb ops Q (o::rest) c w:=
 QM BU fun _ hK=>by
  refine AY hT (int_keyed Yg) m x v ho hd _ _ hm hx hv Tryz.underlying118 (fun p hp=>?_) (keyOf_int_mk Yg hk) (fun p hp e=>?_) (fun w' hT' hg=>hK _ _ (K w' hT' ?_))
  ·obtain ⟨i,e1,e2,_⟩:=hM p hp;exact ⟨_,by rw [e1]; exact keyOf_int_mk Yg e2⟩
  ·obtain ⟨i,e1,_,e2⟩:=hM p hp;rw [e1] at e;injection e with _ e;exact e2 e
  ·exact hB.grown hg hB.size (fun i hi=>by injection hi with hi; omega)
end
def opTab (e:Nat) :List (Zo × Zo):= [(.int .i64 7,.func (.func 89) #[.pointer (some ⟨e,0,none⟩)] #[]),(.int .i64 6,.func (.func 88) #[.pointer (some ⟨e,0,none⟩)] #[]),(.int .i64 5,.func (.func 87) #[.pointer (some ⟨e,0,none⟩)] #[]),(.int .i64 4,.func (.func 86) #[.pointer (some ⟨e,0,none⟩)] #[]),(.int .i64 3,.func (.func 85) #[.pointer (some ⟨e,0,none⟩)] #[]),(.int .i64 2,.func (.func 84) #[.pointer (some ⟨e,0,none⟩)] #[]),(.int .i64 1,.func (.func 83) #[.pointer (some ⟨e,0,none⟩)] #[])]
theorem Ziw (w:Zc)(e:Nat) :Zi Zb 38 #[.pointer (some ⟨e,0,none⟩)] w fun r w'=> ∃b,r= .returned (.map (some b))∧Jk w' b (opTab e)∧w.heap.size≤b∧Zt w.heap.size w w':=by
 have T0:=TF w;have B0:Zt w.heap.size w (w.alloc (.map #[] 0)):=(Zr _ _).alloc (Zg _) _;have Ai:w.heap.size≤w.heap.size:=Zg _;go_enter Tryz.func38,Tryz.ntmps38;go_upto_region 1 with (fail);refine Go.wp_region_list ?_;refine TR rfl 118 rfl ?_;generalize hb:w.heap.size=b at T0 Ai ⊢;rw [←hb] at Ai;generalize w.alloc (.map #[] 0)=w1 at*;simp only [qB];refine BC rfl _ rfl (.pointer (some ⟨e,0,none⟩)) rfl ?_;simp only [qB];refine Dm rfl _ _ rfl (.pointer (some ⟨e,0,none⟩)) rfl ?_;simp only [qB];refine Dl T0 B0 Ze rfl rfl _ _ _ 1 (.func (.func 83) #[(.pointer (some ⟨e,0,none⟩))] #[]) rfl rfl rfl rfl Xh (fun p hp=>by cases hp) ?_;intro w2 T1 B1;clear T0 B0;refine BC rfl _ rfl (.pointer (some ⟨e,0,none⟩)) rfl ?_;simp only [qB];refine Dm rfl _ _ rfl (.pointer (some ⟨e,0,none⟩)) rfl ?_;simp only [qB];refine Dl T1 B1 Ze rfl rfl _ _ _ 2 (.func (.func 84) #[(.pointer (some ⟨e,0,none⟩))] #[]) rfl rfl rfl rfl Xh (fun p hp=>by simp only [Z6,Ya,or_false] at hp; rcases hp with rfl <;> exact ⟨_,rfl,by decide,by decide⟩) ?_;intro w3 T2 B2;clear T1 B1;refine BC rfl _ rfl (.pointer (some ⟨e,0,none⟩)) rfl ?_;simp only [qB];refine Dm rfl _ _ rfl (.pointer (some ⟨e,0,none⟩)) rfl ?_;simp only [qB];refine Dl T2 B2 Ze rfl rfl _ _ _ 3 (.func (.func 85) #[(.pointer (some ⟨e,0,none⟩))] #[]) rfl rfl rfl rfl Xh (fun p hp=>by simp only [Z6,Ya,or_false] at hp; rcases hp with rfl | rfl <;> exact ⟨_,rfl,by decide,by decide⟩) ?_;intro w4 T3 B3;clear T2 B2;refine BC rfl _ rfl (.pointer (some ⟨e,0,none⟩)) rfl ?_;simp only [qB];refine Dm rfl _ _ rfl (.pointer (some ⟨e,0,none⟩)) rfl ?_;simp only [qB];refine Dl T3 B3 Ze rfl rfl _ _ _ 4 (.func (.func 86) #[(.pointer (some ⟨e,0,none⟩))] #[]) rfl rfl rfl rfl Xh (fun p hp=>by simp only [Z6,Ya,or_false] at hp; rcases hp with rfl | rfl | rfl <;> exact ⟨_,rfl,by decide,by decide⟩) ?_;intro w5 T4 B4;clear T3 B3;refine BC rfl _ rfl (.pointer (some ⟨e,0,none⟩)) rfl ?_;simp only [qB];refine Dm rfl _ _ rfl (.pointer (some ⟨e,0,none⟩)) rfl ?_;simp only [qB];refine Dl T4 B4 Ze rfl rfl _ _ _ 5 (.func (.func 87) #[(.pointer (some ⟨e,0,none⟩))] #[]) rfl rfl rfl rfl Xh (fun p hp=>by simp only [Z6,Ya,or_false] at hp; rcases hp with rfl | rfl | rfl | rfl <;> exact ⟨_,rfl,by decide,by decide⟩) ?_;intro w6 T5 B5;clear T4 B4;refine BC rfl _ rfl (.pointer (some ⟨e,0,none⟩)) rfl ?_;simp only [qB];refine Dm rfl _ _ rfl (.pointer (some ⟨e,0,none⟩)) rfl ?_;simp only [qB];refine Dl T5 B5 Ze rfl rfl _ _ _ 6 (.func (.func 88) #[(.pointer (some ⟨e,0,none⟩))] #[]) rfl rfl rfl rfl Xh (fun p hp=>by simp only [Z6,Ya,or_false] at hp; rcases hp with rfl | rfl | rfl | rfl | rfl <;> exact ⟨_,rfl,by decide,by decide⟩) ?_;intro w7 T6 B6;clear T5 B5;refine BC rfl _ rfl (.pointer (some ⟨e,0,none⟩)) rfl ?_;simp only [qB];refine Dm rfl _ _ rfl (.pointer (some ⟨e,0,none⟩)) rfl ?_;simp only [qB];refine Dl T6 B6 Ze rfl rfl _ _ _ 7 (.func (.func 89) #[(.pointer (some ⟨e,0,none⟩))] #[]) rfl rfl rfl rfl Xh (fun p hp=>by simp only [Z6,Ya,or_false] at hp; rcases hp with rfl | rfl | rfl | rfl | rfl | rfl <;> exact ⟨_,rfl,by decide,by decide⟩) ?_;intro w8 T7 B7;clear T6 B6;refine BC rfl _ rfl (.map (some b)) rfl ?_;simp only [qB];refine ec rfl _ rfl (.map (some b)) rfl ?_;simp only [qB];refine wpList_nil ?_;have H7:=Za (Zl T7 (Zl Ai B7));clear T7 B7;go_wp2_with fail;go_ret;exact ⟨b,rfl,H7.out.1,by rw [←hb]; exact H7.out.2.1,H7.out.2.2⟩
end
section
open Go Go.RowKit Go.Deep Go.Maps
theorem N2 {o:Oper}{a:Act}{w:Zc}{K:Act→Zc→Prop}{Q:Exit→Act→Zc→Prop}{t:ZT}{m x:YI}{ok:Bool}(ho:o.op= .lookup t m x ok)(mv xv v:Zo)(hm:a.eval m=mv)(hx:a.eval x=xv)(hr:(JX t mv xv ok).run Zb w= .ok v w)
  (h:K (a.put o.dst v) w) :o.wp Zb a w K Q:=by
 unfold Q8 Xr;simp only [ho,hm,hx,Yl,hr,ZW,YJ];exact h
structure N8 (c:Nat→Int)(k:Nat)(s:Sg)(L:List QO) :Prop where
 ge:GE c
 q8:c 8≤18446744073709551615
 hund:c 0≤100
 inv:Inv c k s
 ring:XU s.ep s.V L
 mg:Cd s.V s.mg
theorem Cd.mono {V W:List Yd}{mg mg':List (Int × Int)}(h:Cd V mg)(hl:V.length≤W.length)(hm: ∀p ∈ mg',p ∈ mg) :Cd W mg':=fun p hp=>by
 obtain ⟨i,j,e,h1,h2⟩:=h p (hm p hp);exact ⟨i,j,e,by omega,by omega⟩
section
variable {N:Nat} {w0:Ez} {w w' w1:Zc} {c cf:Nat→Int} {a:Pl} {q:Ql} {X Z:Nat→Zc→(Nat→Prop)→Prop} {s s':Sg} {L L':List QO} {k:Nat}
theorem ZfT (h:N8 c k s L)(hk:k≤1000000)(o:Oq) :Cd (opO c s o).2.V (opO c s o).2.mg:=by
 unfold opO
 by_cases h1:o.kd=1
 ·rw [if_pos h1]; unfold DR; split
  ·exact h.mg.mono (by show _≤(s.V++_).length; rw [ZN]; omega) fun _ h=>h
  ·exact h.mg
 rw [if_neg h1]
 by_cases h2:o.kd=2
 ·rw [if_pos h2]; exact ZgX
 rw [if_neg h2]
 by_cases h3:o.kd=3
 ·rw [if_pos h3]; exact ZgX
 rw [if_neg h3]
 by_cases h4:o.kd=4
 ·rw [if_pos h4]; unfold Rj; split
  ·exact h.mg.mono jY fun _ h=>h
  ·exact h.mg
 rw [if_neg h4]
 by_cases h5:o.kd=5
 ·rw [if_pos h5]; unfold IX; split
  ·rename_i h0
   intro p hp
   rcases List.mem_append.1 hp with hp | hp
   ·exact h.mg p hp
   ·rw [List.mem_singleton] at hp;subst hp;have h0':Db s.V (o.ix,o.tg) (c 6)=0:=by
     unfold nJ at h0
     split at h0
     ·omega
     ·rename_i h; exact Classical.not_not.1 h
    obtain ⟨i,j,sv,dv,e,_,hi,hj,_⟩:=gw h0';exact ⟨i,j,e,(Zh.1 hi).1,(Zh.1 hj).1⟩
  ·exact h.mg
 rw [if_neg h5]
 by_cases h6:o.kd=6
 ·rw [if_pos h6]; unfold I2; split
  ·exact h.mg
  ·exact h.mg
 rw [if_neg h6]
 split
 ·have hi:=OE h.ge h.inv hk;obtain ⟨g,hn,hr⟩:=LV h.ge hi;obtain ⟨f1,_⟩:=EN (AQ c (L4 c s)) (F8 c (L4 c s)) g.vok hn hr;have e1:(IA c (L4 c s)).V.length=(L4 c s).V.length:=(f1.len).trans g.len;have e2:Cd (L4 c s).V (L4 c s).mg:=by
   unfold L4
   split
   ·have b:=oL h.ge h.inv hk;refine h.mg.mono ?_ fun p hp=>List.mem_of_mem_drop hp
    show s.V.length≤(J8 (c 6) (kP c (X9 s)) (s.mg.take (BI c s.mg))).length;rw [OP,b.l3];exact Zg _
   ·exact h.mg
  exact e2.mono (by rw [show (nw c s).2.V=(IA c (L4 c s)).V from rfl,e1]; exact Zg _) fun _ h=>h
 ·exact h.mg
theorem N8.op (h:N8 c k s L)(hk:k≤1000000)(o:Oq)(ho:Kg o) :N8 c (k+1) (opO c s o).2 (VA c s L o):=
 ⟨h.ge,h.q8,h.hund,rj h.ge h.inv hk o ho,xP h.ge h.inv hk h.ring o,ZfT h hk o⟩
def zg (c:Nat→Int)(q:Ql)(s:Sg)(L:List QO)(o:Oq)(F:FuncId) :Prop:=
 (∀args w,(callFunc F args).run Zb w= .ok (.enter F args) w)∧ ∀N w0 w a Z,Eg N w0 w c a q Z s L→Zi Zb F #[.pointer (some ⟨q.e,0,none⟩),.agg (ZJ o)] w (nZ N w0 c a q Z (opO c s o) (VA c s L o))
theorem LC {w:Zc}{F:FuncId}{vs:Array Zo}{x y:Rp × Sg}{L L':List QO}(h:Zi Zb F vs w (uQ N w0 c a q Z x L))(hx:x=y)(hL:L=L')(h1:x.1.la=[])(h2:x.1.lp=[]) :Zi Zb F vs w (nZ N w0 c a q Z y L'):=by
 subst hx; subst hL;exact h.mono fun e w' h=>nZ.of h h1 h2
theorem ZiV (h:N8 c k s L)(hk:k+1≤1000000)(o:Oq)(ho:Kg o) :(o.kd=1→zg c q s L o 83)∧(o.kd=2→zg c q s L o 84)∧(o.kd=3→zg c q s L o 85)∧(o.kd=4→zg c q s L o 86)∧(o.kd=5→zg c q s L o 87)∧(o.kd=6→zg c q s L o 88)∧(o.kd=7→zg c q s L o 89):=by
 have hr:o.kd≠7→o.kd≠4→VA c s L o=L:=fun h7 h4=>by unfold VA; rw [if_neg h7,if_neg (fun h=>h4 h.1)]
 have dH:k≤1000000:=by omega
 have hL:L.length≤100000:=by
  rw [h.ring.len];have:=IC s.V;have:=h.inv.len;have:=h.hund;omega
 refine ⟨fun e=>?_,fun e=>?_,fun e=>?_,fun e=>?_,fun e=>?_,fun e=>?_,fun e=>?_⟩
 ·refine ⟨Tryz.call83,fun N w0 w a Z hx=>LC (o9 h.ge h.inv dH hx o ho) (by unfold opO; rw [if_pos e]) (hr Ze Ze).symm ?_ ?_⟩
  ·unfold DR; split <;> rfl
  ·unfold DR; split <;> rfl
 ·refine ⟨Tryz.call84,fun N w0 w a Z hx=>LC (ZeP h.ge h.inv dH hx o ho) (by unfold opO; rw [if_neg Ze,if_pos e]) (hr Ze Ze).symm ?_ ?_⟩
  ·exact A7
  ·exact A7
 ·refine ⟨Tryz.call85,fun N w0 w a Z hx=>LC (Zbp h.ge h.inv dH hx o ho) (by unfold opO; rw [if_neg Ze,if_neg Ze,if_pos e]) (hr Ze Ze).symm ?_ ?_⟩
  ·exact A7
  ·exact A7
 ·have e2:cX c s o L=VA c s L o:=by
   unfold VA cX
   by_cases h0:WH c s o.ix=0
   ·rw [if_pos h0,if_neg Ze,if_pos ⟨e,h0⟩]
   ·rw [if_neg h0,if_neg Ze,if_neg (fun h=>h0 h.2)]
  refine ⟨Tryz.call86,fun N w0 w a Z hx=>LC (Zbu h.ge h.inv dH hx o ho hL) (by unfold opO; rw [if_neg Ze,if_neg Ze,if_neg Ze,if_pos e]) e2 ?_ ?_⟩
  ·unfold Rj; split <;> rfl
  ·unfold Rj; split <;> rfl
 ·refine ⟨Tryz.call87,fun N w0 w a Z hx=>LC (CC h.ge h.inv dH hx o ho) (by unfold opO; rw [if_neg Ze,if_neg Ze,if_neg Ze,if_neg Ze,if_pos e]) (hr Ze Ze).symm ?_ ?_⟩
  ·unfold IX; split <;> rfl
  ·unfold IX; split <;> rfl
 ·refine ⟨Tryz.call88,fun N w0 w a Z hx=>LC (lB h.ge h.inv dH hx o ho) (by unfold opO; rw [if_neg Ze,if_neg Ze,if_neg Ze,if_neg Ze,if_neg Ze,if_pos e]) (hr Ze Ze).symm ?_ ?_⟩
  ·unfold I2; split <;> rfl
  ·unfold I2; split <;> rfl
 ·refine ⟨Tryz.call89,fun N w0 w a Z hx=>?_⟩;have:=ZeW h.ge h.q8 h.hund h.inv hk h.ring h.mg hx o e;rw [show opO c s o=nw c s by unfold opO; rw [if_neg Ze,if_neg Ze,if_neg Ze,if_neg Ze,if_neg Ze,if_neg Ze,if_pos e],show VA c s L o=zW c s L by unfold VA; rw [if_pos e]];exact this
theorem so (e:Nat) : ∀p ∈ opTab e,∃l,keyOf Zb 3 p.1=some l:=by
 intro p hp;simp only [opTab,Z6,Ya,or_false] at hp
 rcases hp with rfl | rfl | rfl | rfl | rfl | rfl | rfl <;> exact ⟨_,keyOf_int_mk Yg Xh⟩
theorem Zdx (w:Zc) :(zeroValue 43).run Zb w= .ok .nilFunc w:=by kernel_rfl
theorem sn {w:Zc}{b:Nat}(hT:Jk w b (opTab q.e))(h:N8 c k s L)(hk:k+1≤1000000)(o:Oq)(ho:Kg o) :
  (∃F,(JX 118 (.map (some b)) (.int .i64 o.kd) true).run Zb w= .ok (.tuple #[.func (.func F) #[.pointer (some ⟨q.e,0,none⟩)] #[],.bool true]) w∧zg c q s L o F)∨
  ((JX 118 (.map (some b)) (.int .i64 o.kd) true).run Zb w= .ok (.tuple #[.nilFunc,.bool false]) w∧opO c s o=(UN s o.kd 11,s)∧VA c s L o=L):=by
 obtain ⟨h1,h2,h3,h4,h5,h6,h7⟩:=ZiV (q:=q) h hk o ho;have hwf:(Lit.int .i64 o.kd).wf=true:=ho.1
 rcases hT.lookup (int_keyed Yg) Tryz.underlying118 (Zdx w) (so q.e) (keyOf_int_mk Yg hwf) with ⟨v,hv,hr⟩ | ⟨Kt,hr⟩
 ·refine .inl ?_;simp only [opTab,Z6,Ya,or_false,Prod.mk.injEq,Value.int.injEq,true_and] at hv
  rcases hv with ⟨e,rfl⟩ | ⟨e,rfl⟩ | ⟨e,rfl⟩ | ⟨e,rfl⟩ | ⟨e,rfl⟩ | ⟨e,rfl⟩ | ⟨e,rfl⟩
  ·exact ⟨_,hr,h7 e⟩
  ·exact ⟨_,hr,h6 e⟩
  ·exact ⟨_,hr,h5 e⟩
  ·exact ⟨_,hr,h4 e⟩
  ·exact ⟨_,hr,h3 e⟩
  ·exact ⟨_,hr,h2 e⟩
  ·exact ⟨_,hr,h1 e⟩
 ·refine .inr ⟨hr,?_⟩;have hn: ∀i:Int,1≤i→i≤7→o.kd≠i:=fun i h1 h2 e=>by
   have Ff:i=1∨i=2∨i=3∨i=4∨i=5∨i=6∨i=7:=by omega
   rw [e] at Kt
   rcases Ff with rfl | rfl | rfl | rfl | rfl | rfl | rfl
   ·exact Kt (.int .i64 1,.func (.func 83) #[.pointer (some ⟨q.e,0,none⟩)] #[]) FK rfl
   ·exact Kt (.int .i64 2,.func (.func 84) #[.pointer (some ⟨q.e,0,none⟩)] #[]) FK rfl
   ·exact Kt (.int .i64 3,.func (.func 85) #[.pointer (some ⟨q.e,0,none⟩)] #[]) FK rfl
   ·exact Kt (.int .i64 4,.func (.func 86) #[.pointer (some ⟨q.e,0,none⟩)] #[]) FK rfl
   ·exact Kt (.int .i64 5,.func (.func 87) #[.pointer (some ⟨q.e,0,none⟩)] #[]) FK rfl
   ·exact Kt (.int .i64 6,.func (.func 88) #[.pointer (some ⟨q.e,0,none⟩)] #[]) FK rfl
   ·exact Kt (.int .i64 7,.func (.func 89) #[.pointer (some ⟨q.e,0,none⟩)] #[]) FK rfl
  constructor
  ·unfold opO;rw [if_neg (hn 1 Ze Ze),if_neg (hn 2 Ze Ze),if_neg (hn 3 Ze Ze),if_neg (hn 4 Ze Ze),if_neg (hn 5 Ze Ze),if_neg (hn 6 Ze Ze),if_neg (hn 7 Ze Ze)]
  ·unfold VA;rw [if_neg (hn 7 Ze Ze),if_neg (fun h=>hn 4 Ze Ze h.1)]
theorem u4 {Q1 Q2:Zc→(Nat→Prop)→Prop}{r:Rp}{ia ip:Option Addr}{ca cp:Nat}(hN:11≤N)(h:Eg (N+2+2) w0 w c a q (rowsX (ZI (ZI Z N Q1) (N+1) Q2) (N+2) r ia ca ip cp) s L) :Eg (N+2) w0 w c a q (rowsX Z N r ia ca ip cp) s L:=by
 refine h.remap Ze (fun k=>if k=N then N+2 else if k=N+1 then N+2+1 else k) (fun k hk=>?_) (fun k hk=>?_) (fun k hk=>?_) (fun i j hi hj e=>?_) fun k h1 h2=>?_
 ·exact kh
 ·exact A5
 ·exact A5
 ·exact ZaF
 ·unfold rowsX
  by_cases Rd:k=N+1
  ·subst Rd;rw [xput_same,if_neg Ze,if_pos rfl,xput_same]
  ·rw [xput_ne Rd]
   by_cases bw:k=N
   ·subst bw;rw [xput_same,if_pos rfl,xput_ne Ze,xput_same]
   ·rw [xput_ne bw,if_neg bw,if_neg Rd];rw [xput_ne Ze,xput_ne Ze,xput_ne Ze,xput_ne Ze]
theorem Ov (h:N8 c k s L)(hk:k+1≤1000000)(he:Eg N w0 w c a q Z s L)(o:Oq)(ho:Kg o) :
  Zi Zb 16 #[.pointer (some ⟨q.e,0,none⟩),.agg (ZJ o)] w (nZ N w0 c a q Z (opO c s o) (VA c s L o)):=by
 have hN:=he.low;have hO:=Dz he o;have HT:=Za (h.inv.tm h.ge (show k≤1000000 by omega));have HN:=Za hN;have HF:=Za (fun w b (hT:Jk w b (opTab q.e))=>sn hT h hk o ho);clear h hk he ho hN;go_enter Tryz.func16,Tryz.ntmps16;go_upto_region 1 with (fail);generalize hW:(w.alloc (.cells (ZJ o) 37)).alloc (.cells _ 42)=V0;have eW:(w.alloc (.cells (ZJ o) 37)).alloc (.cells (Zz Gb) 42)=V0:=hW;rw [eW] at hO;generalize w.heap.size=b at*;have HO:=Za hO;clear hW eW hO;go_upto_region 3 with (fail);refine PG (fun w'=>Of N w0 w' c a q Z s L b o) 7 [0,2,3] (?_) ?_
 ·exact Eg.drew HO.out
 simp only [qF,qH];show ZB _ _ _ _ [_,_,_] _;iterate 2 (go_big_quiet_step ((intros; rfl)))
 refine Yw _ _ ⟨b,0,none⟩ (.int .i64 o.kd) rfl rfl rfl (fun w h=>by simp [go_sem,h]) (fun w h=>Of.k0 h HN.out) ?_;simp only [qB];refine Zj ?_;have hO1:Of N w0 V0.drew c a q Z s L b o:=Eg.drew HO.out;clear HO;generalize V0.drew=V1 at*;refine Qt (i:=1) ?_;refine JM #[.pointer (some ⟨q.e,0,none⟩)] Tryz.call38 ((Ziw _ _).mono ?_);rintro r w2 ⟨bt,rfl,hT,_,hb⟩;have zx:Of N w0 w2 c a q Z s L b o:=Eg.below hO1 hb;refine ⟨_,rfl,zx,?_⟩;clear hO1 hb;have Oi:=Za zx;have Cb:=HF.out w2 bt hT;clear HF hT;refine Qt (i:=4) ?_;try simp only [qA]
 rcases Cb with ⟨F,hr,hF⟩ | ⟨hr,hop,Mn⟩
 ·refine YE rfl rfl (N2 rfl _ _ _ rfl rfl hr ⟨zx,?_⟩);clear hr;try simp only [qA]
  refine FR (fun w'=>Of N w0 w' c a q Z s L b o) (m:=5) (f:=0) [5,6,7,8,9] (?_) ?_
  ·exact zx
  simp only [qF,qH];show ZB _ _ _ _ [_,_,_,_,_] _;iterate 5 (go_big_quiet_step ((intros; rfl)))
  refine Zj ?_;clear zx;refine ⟨by kernel_rfl,ZH ?_⟩;try simp only [qA]
  have BT:=hF.1;have HA:=Za (hF.2 _ _ _ _ _ Oi.out);have Vv:=Za (Of.op Oi.out HN.out);clear hF Oi;go_wp2_with (first | (refine Zn rfl 37 _ rfl b rfl 37 _ (0,0) _ Vv.out ZS rfl XV ?_));refine HA.out.mono ?_;rintro e w9 ⟨ia,ca,ip,cp,rfl,h9⟩;have H9:=Za h9;have Vs:=Za (h9.blkAt (r:=N+1) (g:=b+1) (t:=42) (cs:=Zz Gb) ZQ Ze jX);clear h9 Vv HA BT;obtain ⟨R,hR⟩ : ∃R,AF (opO c s o).1 ia ca ip cp=R:=⟨_,rfl⟩;have HR:=Za hR;rw [hR];clear hR;go_wp2_with (first | (refine Zm rfl _ _ _ rfl (b+1) (Zz R) rfl rfl 42 _ Vs.out YS rfl (YC _) ?_));refine ZL (v:= .agg (Zz R)) (ZU (fn:=Tryz.f16) rfl _ _ (b+1) 42 _ (0,0) _ rfl (Yc _ _ _ _ _ _ Vs.out) Yf rfl YS) rfl ?_;refine ⟨ia,ca,ip,cp,by rw [HR.out],?_⟩;refine u4 (Q1:=YR b 37 (ZJ o)) (Q2:=YR (b+1) 42 (Zz R)) HN.out ?_;have We:=H9.out.setr (r:=N+1) (g:=b+1) (t:=42) (cs:=Zz Gb) ZQ Ze jX (cs':=Zz R) (QS Vs.out _) (Xy (S:=fun i=>i=b+1) (ZM _ _) (.inl rfl) _);refine We.ext fun k h1 h2=>?_
  unfold rowsX
  by_cases hk:k=N+1
  ·subst hk; rw [xput_same,xput_ne Ze,xput_ne Ze,xput_same]
  ·rw [xput_ne hk]
   by_cases h3:k=N+2+1
   ·subst h3; rw [xput_same,xput_same]
   ·rw [xput_ne h3,xput_ne h3]
    by_cases h4:k=N+2
    ·subst h4; rw [xput_same,xput_same]
    ·rw [xput_ne h4,xput_ne h4,xput_ne hk,xput_ne hk]
 ·refine YE rfl rfl (N2 rfl _ _ _ rfl rfl hr ⟨zx,?_⟩);clear hr;try simp only [qA]
  refine FR (fun w'=>Of N w0 w' c a q Z s L b o) (m:=5) (f:=0) [5,6,7,8,9] (?_) ?_
  ·exact zx
  simp only [qF,qH];show ZB _ _ _ _ [_,_,_,_,_] _;iterate 5 (go_big_quiet_step ((intros; rfl)))
  refine Zj ?_;clear zx;refine ⟨by kernel_rfl,ZH ?_⟩;try simp only [qA]
  have HE:=Za (Zl hop Mn);have Vv:=Za (Of.op Oi.out HN.out);clear hop Mn;go_wp2_with (first | (refine Zn rfl 37 _ rfl b rfl 37 _ (0,0) _ Vv.out ZS rfl XV ?_));refine (Vf (N:=N+2) Oi.out HT.out o 11).mono ?_;rintro e w9 ⟨rfl,h9⟩;have H9:Hid (Of N w0 w9 c a q Z s L b o):=Za h9;have Vs:=Za (Of.rc h9 HN.out);clear h9 Vv Oi;go_wp2_with (first | (refine Zm rfl _ _ _ rfl (b+1) (Zz (VN o.kd 11 s.bk s.ep)) rfl rfl 42 _ Vs.out YS rfl (YC _) ?_));refine ZL (v:= .agg (Zz (VN o.kd 11 s.bk s.ep))) (ZU (fn:=Tryz.f16) rfl _ _ (b+1) 42 _ (0,0) _ rfl (Yc _ _ _ _ _ _ Vs.out) Yf rfl YS) rfl ?_;rw [HE.out.1,HE.out.2];exact nZ.of (x:=(UN s o.kd 11,s)) ⟨rfl,H9.out.done HN.out _⟩ rfl rfl
end
end
section
open Go Go.RowKit Go.Deep
def Gs (n B:Nat)(P:Nat→Zc→(Nat→Prop)→Prop)(w:Zc) :Prop:=
 (∀j,Xa (P j))∧ ∃Φ,Fam n P Φ w∧ ∀k,k < n→ ∀i,Φ k i→B≤i
def M6:Nat→Zc→(Nat→Prop)→Prop:=fun _ _ _=>False
section
variable {n m B C:Nat} {P Q:Nat→Zc→(Nat→Prop)→Prop} {w w':Zc}
theorem Gs.zero:Gs 0 B M6 w:=⟨fun j=>⟨fun w S h=>h.elim,fun w w' S T h=>h.elim⟩,fun _ _=>False,Fam.zero,fun k hk=>by omega⟩
theorem gb {R:Zc→(Nat→Prop)→Prop}(hP: ∀j,Xa (P j))(hR:Xa R) : ∀j,Xa (ZI P n R j):=fun j=>by
 unfold ZI; split
 ·exact hR
 ·exact hP j
theorem Gs.more {R:Zc→(Nat→Prop)→Prop}{S':Nat→Prop}(h:Gs n B P w)(hR:Xa R)(hr:R w' S')(hS: ∀i,S' i→w.heap.size≤i)(hb:Zt w.heap.size w w')(hB:B≤w.heap.size) :Gs (n+1) B (ZI P n R) w':=by
 obtain ⟨hP,Φ,F,h1⟩:=h;have vQ:=gb (n:=n) hP hR;refine ⟨vQ,_,F.more (P':=ZI P n R) (fun j _=>hP j) (vQ n) (fun j hj=>if_neg Ze) (by rw [show ZI P n R n=R from if_pos rfl]; exact hr) hS hb,fun k hk i hi=>?_⟩
 by_cases ET:k=n
 ·subst ET;rw [Xe] at hi;exact Yk hB (hS i hi)
 ·rw [fput_other ET] at hi;exact h1 k Ze i hi
theorem Gs.kept {T:Nat→Prop}(h:Gs n B P w)(hk:Kept T w w')(hT: ∀i,T i→i < B) :Gs n B P w':=by
 obtain ⟨hP,Φ,F,h1⟩:=h;exact ⟨hP,Φ,F.kept (fun j _=>hP j) hk (fun k hk i hi ht=>by have:=h1 k hk i hi; have:=hT i ht; omega),h1⟩
theorem Gs.below (h:Gs n B P w)(hb:Zt w.heap.size w w') :Gs n B P w':=by
 obtain ⟨hP,Φ,F,h1⟩:=h;exact ⟨hP,Φ,F.below (fun j _=>hP j) hb,h1⟩
theorem Gs.join (h:Gs n B P w)(h':Gs m C Q w')(hb:Zt w.heap.size w w')(hC:w.heap.size≤C)(hB:B≤w.heap.size) :Gs (n+m) B (fun k=>if k < n then P k else Q (k - n)) w':=by
 obtain ⟨hP,Φ,F,h1⟩:=h;obtain ⟨hQ,Ψ,G,h2⟩:=h';have F':=F.below (fun j _=>hP j) hb;refine ⟨fun j=>?_,fun k=>if k < n then Φ k else Ψ (k - n),⟨fun k hk=>?_,fun k hk i hi=>?_,fun j k hj hk ER i hi Uq=>?_⟩,fun k hk i hi=>?_⟩
 ·by_cases hj:j < n
  ·simp only [if_pos hj]; exact hP j
  ·simp only [if_neg hj]; exact hQ _
 ·by_cases ET:k < n
  ·simp only [if_pos ET]; exact F'.part k ET
  ·simp only [if_neg ET]; exact G.part _ Ze
 ·by_cases ET:k < n
  ·simp only [if_pos ET] at hi; exact F'.lt k ET i hi
  ·simp only [if_neg ET] at hi; exact G.lt _ Ze i hi
 ·by_cases Da:j < n
  ·simp only [if_pos Da] at hi
   by_cases ET:k < n
   ·simp only [if_pos ET] at Uq; exact F'.ap j k Da ET ER i hi Uq
   ·simp only [if_neg ET] at Uq;have:=F.lt j Da i hi;have:=h2 _ Ze i Uq;omega
  ·simp only [if_neg Da] at hi
   by_cases ET:k < n
   ·simp only [if_pos ET] at Uq;have:=F.lt k ET i Uq;have:=h2 _ Ze i hi;omega
   ·simp only [if_neg ET] at Uq;exact G.ap _ _ Ze Ze Ze i hi Uq
 ·by_cases ET:k < n
  ·simp only [if_pos ET] at hi; exact h1 k ET i hi
  ·simp only [if_neg ET] at hi;have:=h2 _ Ze i hi;omega
end
section
variable {w w':Zc} {c:Nat→Int}
def Zd5 (b:Nat)(n L:Int) :Zc→(Nat→Prop)→Prop:=fun w S=>DT w b n L∧ ∀i,S i ↔ i=b
def Zbc (b:Nat)(C:Int) :Zc→(Nat→Prop)→Prop:=fun w S=>KC w b 0 0 0 C∧ ∀i,S i ↔ i=b
def ZaX (b:Nat) :Zc→(Nat→Prop)→Prop:=fun w S=>nD w b 0∧ ∀i,S i ↔ i=b
def uP (b:Nat) :Zc→(Nat→Prop)→Prop:=fun w S=>(∃Sp T D,KR w b 0 Sp T D∧Jm 0 Sp T D)∧ ∀i,S i ↔ i=b
def uR (b cap:Nat) :Zc→(Nat→Prop)→Prop:=fun w S=>Fe w b S cap []
def uy (b n:Nat) :Zc→(Nat→Prop)→Prop:=fun w S=>GW w b S n []
def uO (b n:Nat) :Zc→(Nat→Prop)→Prop:=fun w S=>Ln w b S n [] []
theorem ng {b:Nat} :Xa (uP b):=by
 refine ⟨fun w S h i hi=>?_,fun w w' S T h hk hT=>?_⟩
 ·obtain ⟨⟨Sp,T,D,h1,_⟩,h2⟩:=h;rw [(h2 i).1 hi]; exact h1.lt
 ·obtain ⟨⟨Sp,T',D,h1,hf⟩,h2⟩:=h;exact ⟨⟨Sp,T',D,h1.kept hk (hT _ ((h2 _).2 rfl)),hf⟩,h2⟩
theorem nh {b n:Nat} :Xa (uR b n):=⟨fun w S h i hi=>h.lt i hi,fun w w' S T h hk hT=>h.kept hk hT⟩
theorem nb {b n:Nat} :Xa (uy b n):=⟨fun w S h i hi=>h.lt i hi,fun w w' S T h hk hT=>h.kept hk hT⟩
theorem nc {b n:Nat} :Xa (uO b n):=⟨fun w S h i hi=>h.lt i hi,fun w w' S T h hk hT=>h.kept hk hT⟩
structure iD (w0:Zc)(t:Nat)(cs:Array Zo)(c:Nat→Int)(n:Nat)(P:Nat→Zc→(Nat→Prop)→Prop)(w:Zc) :Prop where
 cfg:Zy w w0.heap.size 24 (Zk c)
 out:Zy w (w0.heap.size+1) t cs
 gs:Gs n (w0.heap.size+2) P w
 below:Zt w0.heap.size w0 w
 size:w0.heap.size+2≤w.heap.size
section
variable {w0:Zc} {t n:Nat} {cs:Array Zo} {P:Nat→Zc→(Nat→Prop)→Prop}
theorem iD.start (w:Zc)(t:Nat)(cs:Array Zo)(c:Nat→Int) :iD w t cs c 0 M6 ((w.alloc (.cells (Zk c) 24)).alloc (.cells cs t)):=by
 refine ⟨(Zw w _ _).alloc _,?_,Gs.zero,((Zr _ _).alloc (Zg _) _).alloc ZO _,by simp⟩;have:=Zw (w.alloc (.cells (Zk c) 24)) t cs;rwa [show (w.alloc (.cells (Zk c) 24)).heap.size=w.heap.size+1 by simp] at this
theorem iD.to (h:iD w0 t cs c n P w)(hb:Zt w.heap.size w w') :iD w0 t cs c n P w':=
 ⟨h.cfg.below hb h.cfg.lt,h.out.below hb h.out.lt,h.gs.below hb,h.below.trans (hb.mono h.below.size),Yk h.size hb.size⟩
theorem iD.more (h:iD w0 t cs c n P w){R:Zc→(Nat→Prop)→Prop}{S':Nat→Prop}(hR:Xa R)(hr:R w' S')(hS: ∀i,S' i→w.heap.size≤i)(hb:Zt w.heap.size w w') :iD w0 t cs c (n+1) (ZI P n R) w':=
 ⟨h.cfg.below hb h.cfg.lt,h.out.below hb h.out.lt,h.gs.more hR hr hS hb h.size,h.below.trans (hb.mono h.below.size),Yk h.size hb.size⟩
theorem iD.done (h:iD w0 t cs c n P w)(cs':Array Zo) :Gs n (w0.heap.size+2) P (w.setRow (w0.heap.size+1) cs')∧Zt w0.heap.size w0 (w.setRow (w0.heap.size+1) cs'):=by
 have hk:Kept (fun i=>i=w0.heap.size+1) w (w.setRow (w0.heap.size+1) cs'):=Xy (S:=fun i=>i=w0.heap.size+1) (ZM _ _) (.inl rfl) _;exact ⟨h.gs.kept hk fun i hi=>by omega,Kept.below h.below hk (fun i hi=>by omega) h.below.size⟩
end
theorem rG (a:Nat) :(#[Value.pointer (some ⟨a,0,none⟩)]).all (·.oneCell')=true:=ZV.2 fun u hu=>by
 simp only [UC,Z6,Ya,or_false] at hu;subst hu; rfl
theorem S8 (a b c:Nat) :(#[Value.pointer (some ⟨a,0,none⟩),.pointer (some ⟨b,0,none⟩),.pointer (some ⟨c,0,none⟩)]).all (·.oneCell')=true:=ZV.2 fun u hu=>by
 simp only [UC,Z6,Ya,or_false] at hu
 rcases hu with rfl | rfl | rfl <;> rfl
theorem Aw:(Tryz.prog.info? 86).map (·.size)=some 1:=by kernel_rfl
theorem SS:(Tryz.prog.info? 92).map (·.size)=some 3:=by kernel_rfl
theorem Av:(Tryz.prog.info? 98).map (·.size)=some 3:=by kernel_rfl
theorem ND:(Tryz.prog.info? 104).map (·.size)=some 3:=by kernel_rfl
theorem mh (w:Zc)(hL:1≤c 13) :Zi Zb 30 #[.agg (Zk c)] w fun e w'=> ∃b,e= .returned (.agg #[.pointer (some ⟨b,0,none⟩)])∧Gs 1 (w.heap.size+2) (ZI M6 0 (Zd5 b 0 (c 13))) w'∧Zt w.heap.size w w':=by
 have HL:=Za hL;clear hL;have F0:=iD.start w 86 #[.pointer none] c;go_enter Tryz.func30,Tryz.ntmps30;go_upto_region 1 with (fail);generalize (w.alloc (.cells (Zk c) 24)).alloc (.cells #[.pointer none] 86)=W at*;have HF:=Za F0;obtain ⟨b,hb⟩ : ∃b,w.heap.size=b:=⟨_,rfl⟩;have HB:=Za hb;have y:W.cell? ⟨b,13,none⟩=some (.int .i64 (c 13)):=by rw [←hb]; exact F0.cfg.cell 13
 rw [hb];clear hb F0;go_wp2_with fail;refine (rf (c 13) W HL.out).mono ?_;rintro e w2 ⟨rfl,rfl⟩;have F2:=HF.out.more By (R:=Zd5 W.heap.size 0 (c 13)) (S':=fun i=>i=W.heap.size) (w':=W.alloc (.cells #[.int .i64 0,.int .i64 (c 13)] 217)) ⟨Zw _ _ _,fun i=>Ve⟩ (fun i hi=>by omega) ((Zr _ _).alloc (Zg _) _);have yW:=Za F2;clear F2 HF y;generalize W.heap.size=z at*;generalize W.alloc (.cells #[.int .i64 0,.int .i64 (c 13)] 217)=w2 at*;have HO:Hid (Zy w2 (b+1) 86 #[.pointer none]):=Za (by have:=yW.out.out; rwa [HB.out] at this);go_wp2_with (first | (refine Zm rfl _ _ _ rfl (b+1) #[.pointer (some ⟨z,0,none⟩)] rfl rfl 86 _ HO.out Aw rfl (rG _) ?_));have hd:=yW.out.done #[.pointer (some ⟨z,0,none⟩)];rw [HB.out] at hd;have HD:=Za hd;clear hd;exact ZL (v:= .agg #[.pointer (some ⟨z,0,none⟩)]) (ZU (fn:=Tryz.f30) rfl _ _ (b+1) 86 _ (0,0) _ rfl (Yc _ _ _ _ _ _ HO.out) Tryz.underlying86 rfl Aw) rfl ⟨z,rfl,by rw [HB.out]; exact HD.out.1,by rw [HB.out]; exact HD.out.2⟩
theorem ZcB (w:Zc)(h1:1≤c 0)(h2:c 0≤4096) :Zi Zb 73 #[.int .i64 (c 0)] w fun e w'=> ∃b S,e= .returned (.pointer (some ⟨b,0,none⟩))∧uR b (c 0).toNat w' S∧(∀i,S i→w.heap.size≤i)∧Zt w.heap.size w w':=by
 have:=fF (c 0).toNat w Ze Ze;rwa [show (((c 0).toNat:Nat) :Int)=c 0 by omega] at this
theorem Zcy (w:Zc)(h1:0≤c 4)(h2:c 4≤18446744073709551615) :Zi Zb 74 #[.int .u64 (c 4)] w fun e w'=> ∃b S,e= .returned (.pointer (some ⟨b,0,none⟩))∧Zbc b (c 4) w' S∧(∀i,S i→w.heap.size≤i)∧Zt w.heap.size w w':=
 (ZcF (c 4) w h1 h2).mono fun e w' ⟨he,g1,_,g2,_⟩=>⟨_,fun i=>i=w.heap.size,he,⟨g1,fun i=>Ve⟩,fun i hi=>by omega,g2⟩
theorem Zcv (w:Zc) :Zi Zb 75 #[] w fun e w'=> ∃b S,e= .returned (.pointer (some ⟨b,0,none⟩))∧ZaX b w' S∧(∀i,S i→w.heap.size≤i)∧Zt w.heap.size w w':=
 (fH w).mono fun e w' ⟨b,he,g1,g2,g3⟩=>⟨b,fun i=>i=b,he,⟨g2.out,fun i=>Ve⟩,fun i hi=>by omega,g3⟩
theorem Zcz (w:Zc)(h1:1≤c 1)(h2:c 1≤4096) :Zi Zb 76 #[.int .i64 (c 1)] w fun e w'=> ∃b S,e= .returned (.pointer (some ⟨b,0,none⟩))∧uO b (c 1).toNat w' S∧(∀i,S i→w.heap.size≤i)∧Zt w.heap.size w w':=by
 have:=cc (c 1).toNat w Ze Ze;rw [show (((c 1).toNat:Nat) :Int)=c 1 by omega] at this;exact this.mono fun e w' ⟨he,⟨S,g1,g2⟩,g3⟩=>⟨_,S,he,g1,g2,g3⟩
theorem ZcA (w:Zc) :Zi Zb 77 #[] w fun e w'=> ∃b S,e= .returned (.pointer (some ⟨b,0,none⟩))∧uP b w' S∧(∀i,S i→w.heap.size≤i)∧Zt w.heap.size w w':=
 (fI w).mono fun e w' ⟨he,g1⟩=>by
  subst g1;exact ⟨_,fun i=>i=w.heap.size,he,⟨⟨0,0,0,Zw _ _ _,lI⟩,fun i=>Ve⟩,fun i hi=>by omega,(Zr _ _).alloc (Zg _) _⟩
theorem Zcu (w:Zc)(h1:1≤c 12)(h2:c 12≤4096) :Zi Zb 78 #[.int .i64 (c 12)] w fun e w'=> ∃b S,e= .returned (.pointer (some ⟨b,0,none⟩))∧uy b (c 12).toNat w' S∧(∀i,S i→w.heap.size≤i)∧Zt w.heap.size w w':=by
 have:=fG (c 12).toNat w Ze Ze;rwa [show (((c 12).toNat:Nat) :Int)=c 12 by omega] at this
theorem ring_new {R E k b n:Nat}(h:Zy w b R #[.int .i64 n,.slice none 0 0,.int .i64 0,.int .i64 0])(h1:1≤n)(h2:n≤4096) :BS R E k b n 0 [] w fun i=>i=b:=
 ⟨none,⟨by simp,by simp,.inl ⟨rfl,rfl,h,h1,by omega⟩⟩,fun i=>⟨fun h=> .inl h,fun h=>by rcases h with h | h; exact h; cases h⟩⟩
theorem Zcx (w:Zc)(h1:1≤c 1)(h2:c 1≤4096) :Zi Zb 79 #[.int .i64 (c 1)] w fun e w'=> ∃b S,e= .returned (.pointer (some ⟨b,0,none⟩))∧BS 189 3 1 b (c 1).toNat 0 [] w' S∧(∀i,S i→w.heap.size≤i)∧Zt w.heap.size w w':=by
 have:=PA (c 1).toNat w Ze Ze;exact Zdj
theorem Zcw (w:Zc)(h1:1≤c 1)(h2:c 1≤4096) :Zi Zb 80 #[.int .i64 (c 1)] w fun e w'=> ∃b S,e= .returned (.pointer (some ⟨b,0,none⟩))∧BS 192 73 2 b (c 1).toNat 0 [] w' S∧(∀i,S i→w.heap.size≤i)∧Zt w.heap.size w w':=by
 have:=cF (c 1).toNat w Ze Ze;exact Zdj
theorem ZcC (w:Zc)(h1:1≤c 1)(h2:c 1≤4096) :Zi Zb 81 #[.int .i64 (c 1)] w fun e w'=> ∃b S,e= .returned (.pointer (some ⟨b,0,none⟩))∧BS 195 75 2 b (c 1).toNat 0 [] w' S∧(∀i,S i→w.heap.size≤i)∧Zt w.heap.size w w':=by
 have:=cN (c 1).toNat w Ze Ze;exact Zdj
theorem fK (w:Zc)(hL:1≤c 0∧c 0≤4096∧0≤c 4∧c 4≤18446744073709551615) :Zi Zb 31 #[.agg (Zk c)] w fun e w'=> ∃r l k,e= .returned (.agg #[.pointer (some ⟨r,0,none⟩),.pointer (some ⟨l,0,none⟩),.pointer (some ⟨k,0,none⟩)])∧Gs 3 (w.heap.size+2) (ZI (ZI (ZI M6 0 (uR r (c 0).toNat)) 1 (Zbc l (c 4))) 2 (ZaX k)) w'∧Zt w.heap.size w w':=by
 have HL:=Za hL;clear hL;have F0:=iD.start w 92 #[.pointer none,.pointer none,.pointer none] c;go_enter Tryz.func31,Tryz.ntmps31;go_upto_region 1 with (fail);generalize (w.alloc (.cells (Zk c) 24)).alloc (.cells #[.pointer none,.pointer none,.pointer none] 92)=W at*;have HF:=Za F0;obtain ⟨b,hb⟩ : ∃b,w.heap.size=b:=⟨_,rfl⟩;have HB:=Za hb;rw [hb];clear F0 hb;have Ek:Zy W.drew b 24 (Zk c):=by rw [←HB.out]; exact HF.out.cfg
 refine PG (fun w'=>Zy w' b 24 (Zk c)) 5 [0,1,3,4] (?_) ?_
 ·exact Ek
 simp only [qF,qH];show ZB _ _ _ _ [_,_,_,_] _;iterate 1 (go_big_quiet_step ((intros; rfl)))
 refine Yw _ _ ⟨b,0,none⟩ (.int .i64 (c 0)) rfl rfl rfl (fun w h=>by simp [go_sem,h]) (fun w h=>h.cell 0) ?_;simp only [qB];iterate 1 (go_big_quiet_step ((intros; rfl)))
 refine Yw _ _ ⟨b,4,none⟩ (.int .u64 (c 4)) rfl rfl rfl (fun w h=>by simp [go_sem,h]) (fun w h=>h.cell 4) ?_;simp only [qB];refine Zj ?_;have F1:=Za (HF.out.to ((Zr _ _).drew));clear HF Ek;generalize W.drew=W1 at*;refine Qt (i:=2) ?_;refine JM #[.int .i64 (c 0)] Tryz.call73 ((ZcB W1 HL.out.1 HL.out.2.1).mono ?_);rintro e w2 ⟨r,S0,rfl,hR0,pX,Ai⟩;have F2:=Za (F1.out.more (R:=uR r (c 0).toNat) nh hR0 pX Ai);have Ek:Zy w2 b 24 (Zk c):=by rw [←HB.out]; exact F2.out.cfg
 refine ⟨_,rfl,Ek,?_⟩;clear F1 hR0 pX Ai;refine Qt (i:=5) ?_;try simp only [qA]
 refine JM #[.int .u64 (c 4)] Tryz.call74 ((Zcy w2 HL.out.2.2.1 HL.out.2.2.2).mono ?_);rintro e w3 ⟨l,S1,rfl,hR1,Sz,EO⟩;have F3:=Za (F2.out.more (R:=Zbc l (c 4)) By hR1 Sz EO);have Ek:Zy w3 b 24 (Zk c):=by rw [←HB.out]; exact F3.out.cfg
 refine ⟨_,rfl,Ek,?_⟩;clear F2 hR1 Sz EO;refine Qt (i:=6) ?_;try simp only [qA]
 refine JM #[] Tryz.call75 ((Zcv w3).mono ?_);rintro e w4 ⟨k,S2,rfl,hR2,pY,Gk⟩;have F4:=Za (F3.out.more (R:=ZaX k) By hR2 pY Gk);have Ek:Zy w4 b 24 (Zk c):=by rw [←HB.out]; exact F4.out.cfg
 refine ⟨_,rfl,Ek,?_⟩;clear F3 hR2 pY Gk;try simp only [qA]
 refine FR (fun w'=>Zy w' b 24 (Zk c)) (m:=2) (f:=1) [7] (?_) ?_
 ·exact Ek
 simp only [qF,qH];show ZB _ _ _ _ [_] _;iterate 1 (go_big_quiet_step ((intros; rfl)))
 refine Zj ?_;have HO:Hid (Zy w4 (b+1) 92 _):=Za IN;refine Qt (i:=8) ?_;refine YE rfl rfl (X8 _ _ _ rfl (b+1) #[.pointer (some ⟨r,0,none⟩),.pointer (some ⟨l,0,none⟩),.pointer (some ⟨k,0,none⟩)] rfl rfl 92 _ HO.out SS rfl (S8 _ _ _) ?_);have hd:=F4.out.done #[.pointer (some ⟨r,0,none⟩),.pointer (some ⟨l,0,none⟩),.pointer (some ⟨k,0,none⟩)];rw [HB.out] at hd;refine ⟨Ek.kept (Xy (S:=fun i=>i=b+1) (ZM _ _) (.inl rfl) _) Ze,?_⟩;have HD:=Za hd;clear hd Ek;refine ⟨by kernel_rfl,ZH ?_⟩;try simp only [qA]
 go_wp2_with fail;exact ZL (v:= .agg #[.pointer (some ⟨r,0,none⟩),.pointer (some ⟨l,0,none⟩),.pointer (some ⟨k,0,none⟩)]) (ZU (fn:=Tryz.f31) rfl _ _ (b+1) 92 _ (0,0) _ rfl (Yc _ _ _ _ _ _ HO.out) Tryz.underlying92 rfl SS) rfl ⟨r,l,k,rfl,by rw [HB.out]; exact HD.out.1,by rw [HB.out]; exact HD.out.2⟩
theorem mf (w:Zc)(hL:1≤c 1∧c 1≤4096∧1≤c 12∧c 12≤4096) :Zi Zb 32 #[.agg (Zk c)] w fun e w'=> ∃n m u,e= .returned (.agg #[.pointer (some ⟨n,0,none⟩),.pointer (some ⟨m,0,none⟩),.pointer (some ⟨u,0,none⟩)])∧Gs 3 (w.heap.size+2) (ZI (ZI (ZI M6 0 (uO n (c 1).toNat)) 1 (uP m)) 2 (uy u (c 12).toNat)) w'∧Zt w.heap.size w w':=by
 have HL:=Za hL;clear hL;have F0:=iD.start w 98 #[.pointer none,.pointer none,.pointer none] c;go_enter Tryz.func32,Tryz.ntmps32;go_upto_region 1 with (fail);generalize (w.alloc (.cells (Zk c) 24)).alloc (.cells #[.pointer none,.pointer none,.pointer none] 98)=W at*;have HF:=Za F0;obtain ⟨b,hb⟩ : ∃b,w.heap.size=b:=⟨_,rfl⟩;have HB:=Za hb;rw [hb];clear F0 hb;have Ek:Zy W.drew b 24 (Zk c):=by rw [←HB.out]; exact HF.out.cfg
 refine PG (fun w'=>Zy w' b 24 (Zk c)) 5 [0,1,4,5] (?_) ?_
 ·exact Ek
 simp only [qF,qH];show ZB _ _ _ _ [_,_,_,_] _;iterate 1 (go_big_quiet_step ((intros; rfl)))
 refine Yw _ _ ⟨b,1,none⟩ (.int .i64 (c 1)) rfl rfl rfl (fun w h=>by simp [go_sem,h]) (fun w h=>h.cell 1) ?_;simp only [qB];iterate 1 (go_big_quiet_step ((intros; rfl)))
 refine Yw _ _ ⟨b,12,none⟩ (.int .i64 (c 12)) rfl rfl rfl (fun w h=>by simp [go_sem,h]) (fun w h=>h.cell 12) ?_;simp only [qB];refine Zj ?_;have F1:=Za (HF.out.to ((Zr _ _).drew));clear HF Ek;generalize W.drew=W1 at*;refine Qt (i:=2) ?_;refine JM #[.int .i64 (c 1)] Tryz.call76 ((Zcz W1 HL.out.1 HL.out.2.1).mono ?_);rintro e w2 ⟨n,S0,rfl,hR0,pX,Ai⟩;have F2:=Za (F1.out.more (R:=uO n (c 1).toNat) nc hR0 pX Ai);have Ek:Zy w2 b 24 (Zk c):=by rw [←HB.out]; exact F2.out.cfg
 refine ⟨_,rfl,Ek,?_⟩;clear F1 hR0 pX Ai;refine Qt (i:=3) ?_;try simp only [qA]
 refine JM #[] Tryz.call77 ((ZcA w2).mono ?_);rintro e w3 ⟨m,S1,rfl,hR1,Sz,EO⟩;have F3:=Za (F2.out.more (R:=uP m) ng hR1 Sz EO);have Ek:Zy w3 b 24 (Zk c):=by rw [←HB.out]; exact F3.out.cfg
 refine ⟨_,rfl,Ek,?_⟩;clear F2 hR1 Sz EO;refine Qt (i:=6) ?_;try simp only [qA]
 refine JM #[.int .i64 (c 12)] Tryz.call78 ((Zcu w3 HL.out.2.2.1 HL.out.2.2.2).mono ?_);rintro e w4 ⟨u,S2,rfl,hR2,pY,Gk⟩;have F4:=Za (F3.out.more (R:=uy u (c 12).toNat) nb hR2 pY Gk);have Ek:Zy w4 b 24 (Zk c):=by rw [←HB.out]; exact F4.out.cfg
 refine ⟨_,rfl,Ek,?_⟩;clear F3 hR2 pY Gk;try simp only [qA]
 refine FR (fun w'=>Zy w' b 24 (Zk c)) (m:=2) (f:=1) [7] (?_) ?_
 ·exact Ek
 simp only [qF,qH];show ZB _ _ _ _ [_] _;iterate 1 (go_big_quiet_step ((intros; rfl)))
 refine Zj ?_;have HO:Hid (Zy w4 (b+1) 98 _):=Za IN;refine Qt (i:=8) ?_;refine YE rfl rfl (X8 _ _ _ rfl (b+1) #[.pointer (some ⟨n,0,none⟩),.pointer (some ⟨m,0,none⟩),.pointer (some ⟨u,0,none⟩)] rfl rfl 98 _ HO.out Av rfl (S8 _ _ _) ?_);have hd:=F4.out.done #[.pointer (some ⟨n,0,none⟩),.pointer (some ⟨m,0,none⟩),.pointer (some ⟨u,0,none⟩)];rw [HB.out] at hd;refine ⟨Ek.kept (Xy (S:=fun i=>i=b+1) (ZM _ _) (.inl rfl) _) Ze,?_⟩;have HD:=Za hd;clear hd Ek;refine ⟨by kernel_rfl,ZH ?_⟩;try simp only [qA]
 go_wp2_with fail;exact ZL (v:= .agg #[.pointer (some ⟨n,0,none⟩),.pointer (some ⟨m,0,none⟩),.pointer (some ⟨u,0,none⟩)]) (ZU (fn:=Tryz.f32) rfl _ _ (b+1) 98 _ (0,0) _ rfl (Yc _ _ _ _ _ _ HO.out) Tryz.underlying98 rfl Av) rfl ⟨n,m,u,rfl,by rw [HB.out]; exact HD.out.1,by rw [HB.out]; exact HD.out.2⟩
theorem CZ (w:Zc)(hL:1≤c 1∧c 1≤4096) :Zi Zb 33 #[.agg (Zk c)] w fun e w'=> ∃p d q,e= .returned (.agg #[.pointer (some ⟨p,0,none⟩),.pointer (some ⟨d,0,none⟩),.pointer (some ⟨q,0,none⟩)])∧Gs 3 (w.heap.size+2) (ZI (ZI (ZI M6 0 (BS 189 3 1 p (c 1).toNat 0 [])) 1 (BS 192 73 2 d (c 1).toNat 0 [])) 2 (BS 195 75 2 q (c 1).toNat 0 [])) w'∧Zt w.heap.size w w':=by
 have HL:=Za hL;clear hL;have F0:=iD.start w 104 #[.pointer none,.pointer none,.pointer none] c;go_enter Tryz.func33,Tryz.ntmps33;go_upto_region 1 with (fail);generalize (w.alloc (.cells (Zk c) 24)).alloc (.cells #[.pointer none,.pointer none,.pointer none] 104)=W at*;have HF:=Za F0;obtain ⟨b,hb⟩ : ∃b,w.heap.size=b:=⟨_,rfl⟩;have HB:=Za hb;rw [hb];clear F0 hb;have Ek:Zy W.drew b 24 (Zk c):=by rw [←HB.out]; exact HF.out.cfg
 refine PG (fun w'=>Zy w' b 24 (Zk c)) 5 [0,1,3,4,6,7] (?_) ?_
 ·exact Ek
 simp only [qF,qH];show ZB _ _ _ _ [_,_,_,_,_,_] _;iterate 1 (go_big_quiet_step ((intros; rfl)))
 refine Yw _ _ ⟨b,1,none⟩ (.int .i64 (c 1)) rfl rfl rfl (fun w h=>by simp [go_sem,h]) (fun w h=>h.cell 1) ?_;simp only [qB];iterate 1 (go_big_quiet_step ((intros; rfl)))
 refine Yw _ _ ⟨b,1,none⟩ (.int .i64 (c 1)) rfl rfl rfl (fun w h=>by simp [go_sem,h]) (fun w h=>h.cell 1) ?_;simp only [qB];iterate 1 (go_big_quiet_step ((intros; rfl)))
 refine Yw _ _ ⟨b,1,none⟩ (.int .i64 (c 1)) rfl rfl rfl (fun w h=>by simp [go_sem,h]) (fun w h=>h.cell 1) ?_;simp only [qB];refine Zj ?_;have F1:=Za (HF.out.to ((Zr _ _).drew));clear HF Ek;generalize W.drew=W1 at*;refine Qt (i:=2) ?_;refine JM #[.int .i64 (c 1)] Tryz.call79 ((Zcx W1 HL.out.1 HL.out.2).mono ?_);rintro e w2 ⟨p,S0,rfl,hR0,pX,Ai⟩;have F2:=Za (F1.out.more (R:=BS 189 3 1 p (c 1).toNat 0 []) GL hR0 pX Ai);have Ek:Zy w2 b 24 (Zk c):=by rw [←HB.out]; exact F2.out.cfg
 refine ⟨_,rfl,Ek,?_⟩;clear F1 hR0 pX Ai;refine Qt (i:=5) ?_;try simp only [qA]
 refine JM #[.int .i64 (c 1)] Tryz.call80 ((Zcw w2 HL.out.1 HL.out.2).mono ?_);rintro e w3 ⟨d,S1,rfl,hR1,Sz,EO⟩;have F3:=Za (F2.out.more (R:=BS 192 73 2 d (c 1).toNat 0 []) GL hR1 Sz EO);have Ek:Zy w3 b 24 (Zk c):=by rw [←HB.out]; exact F3.out.cfg
 refine ⟨_,rfl,Ek,?_⟩;clear F2 hR1 Sz EO;refine Qt (i:=8) ?_;try simp only [qA]
 refine JM #[.int .i64 (c 1)] Tryz.call81 ((ZcC w3 HL.out.1 HL.out.2).mono ?_);rintro e w4 ⟨q,S2,rfl,hR2,pY,Gk⟩;have F4:=Za (F3.out.more (R:=BS 195 75 2 q (c 1).toNat 0 []) GL hR2 pY Gk);have Ek:Zy w4 b 24 (Zk c):=by rw [←HB.out]; exact F4.out.cfg
 refine ⟨_,rfl,Ek,?_⟩;clear F3 hR2 pY Gk;try simp only [qA]
 refine FR (fun w'=>Zy w' b 24 (Zk c)) (m:=2) (f:=1) [9] (?_) ?_
 ·exact Ek
 simp only [qF,qH];show ZB _ _ _ _ [_] _;iterate 1 (go_big_quiet_step ((intros; rfl)))
 refine Zj ?_;have HO:Hid (Zy w4 (b+1) 104 _):=Za IN;refine Qt (i:=10) ?_;refine YE rfl rfl (X8 _ _ _ rfl (b+1) #[.pointer (some ⟨p,0,none⟩),.pointer (some ⟨d,0,none⟩),.pointer (some ⟨q,0,none⟩)] rfl rfl 104 _ HO.out ND rfl (S8 _ _ _) ?_);have hd:=F4.out.done #[.pointer (some ⟨p,0,none⟩),.pointer (some ⟨d,0,none⟩),.pointer (some ⟨q,0,none⟩)];rw [HB.out] at hd;refine ⟨Ek.kept (Xy (S:=fun i=>i=b+1) (ZM _ _) (.inl rfl) _) Ze,?_⟩;have HD:=Za hd;clear hd Ek;refine ⟨by kernel_rfl,ZH ?_⟩;try simp only [qA]
 go_wp2_with fail;exact ZL (v:= .agg #[.pointer (some ⟨p,0,none⟩),.pointer (some ⟨d,0,none⟩),.pointer (some ⟨q,0,none⟩)]) (ZU (fn:=Tryz.f33) rfl _ _ (b+1) 104 _ (0,0) _ rfl (Yc _ _ _ _ _ _ HO.out) Tryz.underlying104 rfl ND) rfl ⟨p,d,q,rfl,by rw [HB.out]; exact HD.out.1,by rw [HB.out]; exact HD.out.2⟩
end
end
section
open Go Go.RowKit Go.Deep
theorem xT (P:YZ)(t:ZT)(cs:Array Zo)(w:Zc) :(Instr.box t (.agg cs)).run P w= .ok (.pointer (some ⟨w.heap.size,0,none⟩)) (w.alloc (.cells cs t)):=by
 simp [Instr.box,newRow,go_sem,Value.cells]
theorem nB {P:YZ}{o:Oper}{a:Act}{w:Zc}{K:Act→Zc→Prop}{Q:Exit→Act→Zc→Prop}{t:ZT}{x:YI}(ho:o.op= .box t x)(cs:Array Zo)(hx:a.eval x= .agg cs)
  (h:K (a.put o.dst (.pointer (some ⟨w.heap.size,0,none⟩))) (w.alloc (.cells cs t))) :o.wp P a w K Q:=by
 unfold Q8 Xr;simp only [ho,hx,Yl,xT,ZW,YJ];exact h
theorem jC {P:YZ}{ops:Array Oper}{C:Zc→Prop}{Qa:Act→Prop}{op:Oper}{rest:List Oper}{a:Act}(t:ZT)(parts:Array (Nat × YI))(hw:Region.wanted op (yielded ops a.tmps)=true)(ho:op.op= .build t parts)(cs:Array Zo)(hf:P.built t (parts.map fun (i,x)=>(i,a.eval x)).toList=some cs)(h:ZB P ops C Qa rest (a.put op.dst (.agg cs))) :ZB P ops C Qa (op::rest) a:=by
 refine GU (.agg cs) hw (fun w=>?_) h;have e:=run_build (P:=P) w t (parts.map fun (i,x)=>(i,a.eval x)) _ hf;unfold Xr;rw [ho];show ((Instr.build t (parts.map fun (i,x)=>(i,a.eval x)))>>=fun r=>pure (Next.value r)).run P w=_;simp only [Yl,e,ZW,YJ]
theorem AU (c:Nat→Int)(w:Zc) :Zi Zb 29 #[.agg (Zk c)] w fun e w'=>e= .returned (.bool (P6 c==0))∧Zt w.heap.size w w':=by
 have B0:Zy (w.alloc (.cells (Zk c) 24)) w.heap.size 24 (Zk c):=Zw _ _ _;have b1:Zt w.heap.size w (w.alloc (.cells (Zk c) 24)):=(Zr _ _).alloc (Zg _) _;have H:=Za (fun W=>kY c W);generalize P6 c=k at H ⊢;go_enter Tryz.func29,Tryz.ntmps29;go_upto_region 1 with (fail);have HB:=Za B0;have Hb:=Za b1;clear B0 b1;generalize w.alloc (.cells (Zk c) 24)=W at*;go_wp2_with (first | (refine Zn rfl 24 _ rfl w.heap.size rfl 24 _ (0,0) _ HB.out ZC rfl Xn ?_));refine (H.out W).mono ?_;rintro e w2 ⟨rfl,b2⟩;have H2:=Za (Hb.out.trans (b2.mono Hb.out.size));clear Hb b2 HB;go_wp2_with fail;go_ret;exact ⟨rfl,H2.out⟩
section
variable {w:Zc} {c:Nat→Int}
theorem iT (w:Zc)(h:P6 c≠0) :Zi Zb 9 #[.agg (Zk c)] w fun e w'=>e= .returned (.tuple #[.pointer none,.int .i64 2])∧Zt w.heap.size w w':=by
 have B0:Zy (w.alloc (.cells (Zk c) 24)) w.heap.size 24 (Zk c):=Zw _ _ _;have b1:Zt w.heap.size w (w.alloc (.cells (Zk c) 24)):=(Zr _ _).alloc (Zg _) _;have hk:(P6 c==0)=false:=by simpa using h
 go_enter Tryz.func9,Tryz.ntmps9;go_upto_region 1 with (fail);have HB:=Za B0;have Hb:=Za b1;have HK:=Za hk;clear B0 b1 hk h;generalize w.alloc (.cells (Zk c) 24)=W at*;go_wp2_with (first | (refine Zn rfl 24 _ rfl w.heap.size rfl 24 _ (0,0) _ HB.out ZC rfl Xn ?_));refine (AU c W).mono ?_;rintro e w2 ⟨rfl,b2⟩;rw [HK.out];have H2:=Za (Hb.out.trans (b2.mono Hb.out.size));clear Hb b2 HB;go_wp2_with fail;go_ret2;exact ⟨rfl,H2.out⟩
def mkF:Nat→Nat
 | 0=>0 | 1=>2 | 2=>1 | 3=>6 | 4=>3 | 5=>5 | 6=>4 | 7=>7 | 8=>8 | 9=>9 | 10=>10 | k=>k
theorem wM {B:Nat}{P:Nat→Zc→(Nat→Prop)→Prop}{w0 w':Zc}{a:Pl}{q:Ql}{Z:Nat→Zc→(Nat→Prop)→Prop}(h:Gs 11 B P w')(hb:Zt w0.heap.size w0 w')(hB:w0.heap.size≤B)
  (hP: ∀k,k < 11→Pt c a (XE c a q [] [] (fun _ _ _=>False)) cW [] k=P (mkF k)) :Eg 11 ⟨fun _=>False,w0⟩ w' c a q Z cW []:=by
 obtain ⟨_,Φ,F,h1⟩:=h;refine ⟨fun _ _ _=>False,fun k hk=>⟨fun w S h=>h.elim,fun w w' S T h=>h.elim⟩,fun k h1 h2=>by omega,Zg _,fun k=>Φ (mkF k),F.remap mkF (fun k hk=>?_) (fun j k hj hk e=>?_) hP,fun k hk i hi=> .inr ?_,Kept.of_below hb⟩
 ·exact Zgu
 ·have h1:j=0∨j=1∨j=2∨j=3∨j=4∨j=5∨j=6∨j=7∨j=8∨j=9∨j=10:=by omega
  have h2:k=0∨k=1∨k=2∨k=3∨k=4∨k=5∨k=6∨k=7∨k=8∨k=9∨k=10:=by omega
  rcases h1 with rfl | rfl | rfl | rfl | rfl | rfl | rfl | rfl | rfl | rfl | rfl <;> rcases h2 with rfl | rfl | rfl | rfl | rfl | rfl | rfl | rfl | rfl | rfl | rfl <;> first | rfl | (simp [mkF] at e)
 ·have:mkF k < 11:=by
   exact Zgu
  exact Yk hB (h1 _ this i hi)
theorem ln (w:Zc)(hg:GE c)(h:P6 c=0) :Zi Zb 9 #[.agg (Zk c)] w fun e w'=> ∃a q,e= .returned (.tuple #[.pointer (some ⟨q.e,0,none⟩),.int .i64 0])∧ ∀Z,Eg 11 ⟨fun _=>False,w⟩ w' c a q Z cW []:=by
 have B0:Zy (w.alloc (.cells (Zk c) 24)) w.heap.size 24 (Zk c):=Zw _ _ _;have b1:Zt w.heap.size w (w.alloc (.cells (Zk c) 24)):=(Zr _ _).alloc (Zg _) _;have hk:(P6 c==0)=true:=by simpa using h
 have G:=Za hg;go_enter Tryz.func9,Tryz.ntmps9;go_upto_region 1 with (fail);have HB:=Za B0;have Hb:=Za b1;have HK:=Za hk;clear B0 b1 hk h hg;generalize w.alloc (.cells (Zk c) 24)=W at*;obtain ⟨b,hb⟩ : ∃b,w.heap.size=b:=⟨_,rfl⟩;have HH:=Za hb;rw [hb] at HB ⊢;clear hb;go_wp2_with (first | (refine Zn rfl 24 _ rfl b rfl 24 _ (0,0) _ HB.out ZC rfl Xn ?_));refine (AU c W).mono ?_;rintro e w2 ⟨rfl,b2⟩;rw [HK.out];have H2:=Za (Zl (HB.out.below b2 HB.out.lt) (Hb.out.trans (b2.mono Hb.out.size)));clear Hb b2 HB HK;go_wp2_with fail;refine PG (fun w'=>Zy w' b 24 (Zk c)) 8 [0,1,3,5,7] (?_) ?_
 ·exact H2.out.1.drew
 simp only [qF,qH];show ZB _ _ _ _ [_,_,_,_,_] _;refine Qg 24 _ b 24 (Zk c) _ rfl rfl rfl (fun w h=>h) ZC rfl Xn ?_;simp only [qB];refine Qg 24 _ b 24 (Zk c) _ rfl rfl rfl (fun w h=>h) ZC rfl Xn ?_;simp only [qB];refine Qg 24 _ b 24 (Zk c) _ rfl rfl rfl (fun w h=>h) ZC rfl Xn ?_;simp only [qB];refine Qg 24 _ b 24 (Zk c) _ rfl rfl rfl (fun w h=>h) ZC rfl Xn ?_;simp only [qB];refine Qg 24 _ b 24 (Zk c) _ rfl rfl rfl (fun w h=>h) ZC rfl Xn ?_;simp only [qB];refine Zj ?_;have H3:=Za (show Zy w2.drew b 24 (Zk c)∧Zt w.heap.size w w2.drew from ⟨H2.out.1.drew,H2.out.2.drew⟩);clear H2;generalize w2.drew=W3 at*;have G0:=Za (Gs.zero (B:=W3.heap.size) (w:=W3));have HW3:=Za H3.out.2.size;refine Qt (i:=2) ?_;refine JM #[.agg (Zk c)] Tryz.call30 ((mh W3 G.out.g.len0).mono ?_);rintro e w4 ⟨kc,rfl,g4,b4⟩;have G4:=Za (G0.out.join g4 b4 Ze (Zg _));have H4:=Za (Zl (H3.out.1.below b4 H3.out.1.lt) (Zl (H3.out.2.trans (b4.mono H3.out.2.size)) b4));refine ⟨_,rfl,H4.out.1,?_⟩;clear G0 g4 b4 H3;refine Qt (i:=4) ?_;try simp only [qA]
 refine JM #[.agg (Zk c)] Tryz.call31 ((fK w4 ⟨G.out.g.cap0,G.out.g.cap1,by have:=G.out.a2; have:=G.out.a23; have:=G.out.a3; omega,by have:=G.out.a4; omega⟩).mono ?_);rintro e w5 ⟨kr,kl,kk,rfl,g5,b5⟩;have G5:=Za (G4.out.join g5 b5 Ze H4.out.2.2.size);have H5:=Za (Zl (H4.out.1.below b5 H4.out.1.lt) (Zl (H4.out.2.1.trans (b5.mono H4.out.2.1.size)) (Yk H4.out.2.2.size b5.size)));refine ⟨_,rfl,H5.out.1,?_⟩;clear G4 g5 b5 H4;refine Qt (i:=6) ?_;try simp only [qA]
 refine JM #[.agg (Zk c)] Tryz.call32 ((mf w5 ⟨G.out.q0,G.out.q1,G.out.r0,G.out.r1⟩).mono ?_);rintro e w6 ⟨kn,km,ku,rfl,g6,b6⟩;have G6:=Za (G5.out.join g6 b6 Ze H5.out.2.2);have H6:=Za (Zl (H5.out.1.below b6 H5.out.1.lt) (Zl (H5.out.2.1.trans (b6.mono H5.out.2.1.size)) (Yk H5.out.2.2 b6.size)));refine ⟨_,rfl,H6.out.1,?_⟩;clear G5 g6 b6 H5;refine Qt (i:=8) ?_;try simp only [qA]
 refine JM #[.agg (Zk c)] Tryz.call33 ((CZ w6 ⟨G.out.q0,G.out.q1⟩).mono ?_);rintro e w7 ⟨kp,kd,kq,rfl,g7,b7⟩;have G7:=Za (G6.out.join g7 b7 Ze H6.out.2.2);have H7:=Za (Zl (H6.out.1.below b7 H6.out.1.lt) (Zl (H6.out.2.1.trans (b7.mono H6.out.2.1.size)) (Yk H6.out.2.2 b7.size)));refine ⟨_,rfl,H7.out.1,?_⟩;clear G6 g7 b7 H6;try simp only [qA]
 refine FR (fun w'=>Zy w' b 24 (Zk c)) (m:=4) (f:=3) [9] (?_) ?_
 ·exact H7.out.1
 simp only [qF,qH];show ZB _ _ _ _ [_] _;obtain ⟨a,ha⟩ : ∃a:Pl,a=⟨kc,kl,kr,ku,kk,km,kn,kp⟩:=⟨_,rfl⟩;refine jC 107 _ Yi rfl (Un c ⟨kc,kl,kr,ku,kk,km,kn,kp⟩ ⟨kd,kq,w7.heap.size⟩) Yi ?_;simp only [qB];refine Zj ?_;refine Qt (i:=10) ?_;try simp only [qA]
 refine YE rfl rfl (nB rfl (Un c ⟨kc,kl,kr,ku,kk,km,kn,kp⟩ ⟨kd,kq,w7.heap.size⟩) rfl ?_);have zB:Zt w7.heap.size w7 (w7.alloc (.cells (Un c ⟨kc,kl,kr,ku,kk,km,kn,kp⟩ ⟨kd,kq,w7.heap.size⟩) 107)):=(Zr _ _).alloc (Zg _) _;have G8:=Za (G7.out.more (R:=YR w7.heap.size 107 (Un c ⟨kc,kl,kr,ku,kk,km,kn,kp⟩ ⟨kd,kq,w7.heap.size⟩)) stays_block (S':=fun i=>i=w7.heap.size) ⟨Zw _ _ _,fun i=>Ve⟩ (fun i hi=>by omega) zB H7.out.2.2);have H8:=Za (Zl (H7.out.1.below zB H7.out.1.lt) (Zl (H7.out.2.1.trans (zB.mono H7.out.2.1.size)) H7.out.2.2));refine ⟨H8.out.1,?_⟩;clear G7 H7 zB;generalize w7.alloc (.cells (Un c ⟨kc,kl,kr,ku,kk,km,kn,kp⟩ ⟨kd,kq,w7.heap.size⟩) 107)=w8 at*;generalize w7.heap.size=ke at*;try simp only [qA]
 refine FR (fun w'=>Zy w' b 24 (Zk c)) (m:=2) (f:=0) [11,12] (?_) ?_
 ·exact H8.out.1
 simp only [qF,qH];show ZB _ _ _ _ [_,_] _;iterate 2 (go_big_quiet_step ((intros; rfl)))
 refine Zj ?_;refine ⟨by kernel_rfl,ZH ?_⟩;try simp only [qA]
 go_wp2_with fail;go_ret2;refine ⟨⟨kc,kl,kr,ku,kk,km,kn,kp⟩,⟨kd,kq,ke⟩,rfl,fun Z=>?_⟩;have hB:=H8.out.2.2;refine wM G8.out H8.out.2.1 HW3.out fun k hk=>?_
 have h1:k=0∨k=1∨k=2∨k=3∨k=4∨k=5∨k=6∨k=7∨k=8∨k=9∨k=10:=by omega
 rcases h1 with rfl | rfl | rfl | rfl | rfl | rfl | rfl | rfl | rfl | rfl | rfl <;> rfl
end
end
section
open Go Go.RowKit Go.Deep
structure Sv where
 a:Option Addr
 n:Nat
 c:Nat
def Sv.v (x:Sv) :Zo:= .slice x.a x.n x.c
def Y7 (s:Sg)(ac:Int)(u:Int)(v1 v2 v3 v4 v5 v6:Zo) :Array Zo:= #[.int .i64 s.bk,.int .i64 s.ep,v1,.int .u64 s.D,.int .u64 s.P,.int .u64 s.B,.int .u64 ac,v2,v3,v4,v5,v6,.int .i64 (s.cu:Int),.int .u64 s.cy,.int .i64 u]
def snZ:Array Zo:= #[.int .i64 0,.int .i64 0,.slice none 0 0,.int .u64 0,.int .u64 0,.int .u64 0,.int .u64 0,.slice none 0 0,.slice none 0 0,.slice none 0 0,.slice none 0 0,.slice none 0 0,.int .i64 0,.int .u64 0,.int .i64 0]
def rwV (s:Sg)(v:Zo) :Zc→(Nat→Prop)→Prop:=YP 63 7 v s.V.length (XC s.V)
def rwI (l:List Int)(v:Zo) :Zc→(Nat→Prop)→Prop:=YP 3 1 v l.length (l.map (Value.int .i64))
def rwM (s:Sg)(v:Zo) :Zc→(Nat→Prop)→Prop:=YP 73 2 v s.mg.length (Js s.mg)
def rwT (s:Sg)(v:Zo) :Zc→(Nat→Prop)→Prop:=YP 75 2 v s.pt.length (Jl s.pt)
def xX (Z:Nat→Zc→(Nat→Prop)→Prop)(N:Nat)(s:Sg)(v1 v2 v3 v4 v5 v6:Zo) :Nat→Zc→(Nat→Prop)→Prop:=
 ZI (ZI (ZI (ZI (ZI (ZI Z N (rwV s v1)) (N+1) (rwI s.pd v2)) (N+2) (rwI s.F v3)) (N+3) (rwI s.W v4)) (N+4) (rwM s v5)) (N+5) (rwT s v6)
theorem OO (s:Sg)(ac u:Int)(a1 a2 a3 a4 a5 a6:Option Addr)(n1 n2 n3 n4 n5 n6 c1 c2 c3 c4 c5 c6:Nat) :(Y7 s ac u (.slice a1 n1 c1) (.slice a2 n2 c2) (.slice a3 n3 c3) (.slice a4 n4 c4) (.slice a5 n5 c5) (.slice a6 n6 c6)).all (·.oneCell')=true:=ZV.2 fun u hu=>by
 simp only [Y7,UC,Z6,Ya,or_false] at hu
 rcases hu with rfl | rfl | rfl | rfl | rfl | rfl | rfl | rfl | rfl | rfl | rfl | rfl | rfl | rfl | rfl <;> rfl
theorem Gn:(Tryz.prog.info? 51).map (·.size)=some 15:=by kernel_rfl
theorem wU:(Tryz.prog.info? 132).map (·.size)=some 3:=by kernel_rfl
section
variable {N:Nat} {w0:Ez} {w w' w1:Zc} {c cf:Nat→Int} {a:Pl} {q:Ql} {X Z:Nat→Zc→(Nat→Prop)→Prop} {s s':Sg} {L L':List QO} {k:Nat}
theorem Eg.pall (h:Eg N w0 w c a q Z s L)(hl:s.pd.length≤4096) :Zi Zb 57 #[.pointer (some ⟨a.p,0,none⟩)] w fun e w'=> ∃v,e= .returned v∧Eg (N+1) w0 w' c a q (ZI Z N (rwI s.pd v)) s L:=by
 have hN:=h.low;obtain ⟨X,hX,VP,hh,_,hK,_⟩:=h.open;refine (hh.pall hX VP).mono fun e w' ⟨he,g1,_⟩=>⟨_,he,?_⟩
 have g2:=hK _ _ _ _ g1 stays_block rfl rfl;have g3:=g2.torow (r:=N) (t:=3) (k:=1) (n:=s.pd.length) hN Ze xput_same ZO US;rwa [Xg] at g3
theorem Eg.lall (h:Eg N w0 w c a q Z s L)(cl:Int) :Zi Zb 58 #[.pointer (some ⟨a.n,0,none⟩),.int .i64 cl] w fun e w'=> ∃v,e= .returned v∧Eg (N+1) w0 w' c a q (ZI Z N (rwI (UW s.F s.W cl) v)) s L:=by
 obtain ⟨X,hX,VP,hh,_,hK,_⟩:=h.open;exact (hh.lall hX VP cl).mono fun e w' ⟨v,he,g1,_⟩=>⟨v,he,hK _ _ _ _ g1 stays_row rfl rfl⟩
theorem Eg.mrow (h:Eg N w0 w c a q Z s L)(hl:s.mg.length≤4096) :Zi Zb 59 #[.pointer (some ⟨q.d,0,none⟩)] w fun e w'=> ∃v,e= .returned v∧Eg (N+1) w0 w' c a q (ZI Z N (rwM s v)) s L:=by
 have hN:=h.low;refine (h.mall).mono fun e w' ⟨he,g1,_⟩=>⟨_,he,?_⟩
 have g3:=g1.torow (r:=N) (t:=73) (k:=2) (n:=s.mg.length) hN Ze xput_same (Fx _) US;rwa [Xg] at g3
theorem Eg.trow (h:Eg N w0 w c a q Z s L)(hl:s.pt.length≤4096) :Zi Zb 60 #[.pointer (some ⟨q.q,0,none⟩)] w fun e w'=> ∃v,e= .returned v∧Eg (N+1) w0 w' c a q (ZI Z N (rwT s v)) s L:=by
 have hN:=h.low;refine (h.tall).mono fun e w' ⟨he,g1,_⟩=>⟨_,he,?_⟩
 have g3:=g1.torow (r:=N) (t:=75) (k:=2) (n:=s.pt.length) hN Ze xput_same (FD _) US;rwa [Xg] at g3
theorem Eg.at_ (h:Eg N w0 w c a q Z s L) :Zi Zb 61 #[.pointer (some ⟨a.k,0,none⟩)] w fun e w'=>e= .returned (.int .i64 s.cu)∧w=w':=by
 obtain ⟨X,hX,VP,hh,_⟩:=h.open;exact hh.at_ VP
theorem Eg.carry (h:Eg N w0 w c a q Z s L) :Zi Zb 62 #[.pointer (some ⟨a.m,0,none⟩)] w fun e w'=>e= .returned (.int .u64 s.cy)∧ ∃m,w'=w.drewN m:=by
 obtain ⟨X,hX,VP,hh,_⟩:=h.open;exact hh.carry VP
theorem Eg.totals (h:Eg N w0 w c a q Z s L) :Zi Zb 52 #[.pointer (some ⟨a.l,0,none⟩)] w fun e w'=>e= .returned (.agg #[.int .u64 s.D,.int .u64 s.P,.int .u64 s.B])∧Zt w.heap.size w w':=by
 obtain ⟨X,hX,VP,hh,_⟩:=h.open;exact hh.totals VP
theorem Eg.ulen (h:Eg N w0 w c a q Z s L)(hL:L.length≤100000) :Zi Zb 63 #[.pointer (some ⟨a.u,0,none⟩)] w fun e w'=>e= .returned (.int .i64 L.length)∧Eg N w0 w' c a q Z s L:=by
 obtain ⟨X,hX,VP,hh,hK,_⟩:=h.open;exact (hh.ulen hX VP hL).mono fun e w' ⟨he,g1,_⟩=>⟨he,hK _ _ _ g1 rfl rfl⟩
theorem yo (x y z:Int) :(#[Value.int .u64 x,.int .u64 y,.int .u64 z]).all (·.oneCell')=true:=ZV.2 fun u hu=>by
 simp only [UC,Z6,Ya,or_false] at hu
 rcases hu with rfl | rfl | rfl <;> rfl
theorem ZeV (h:Eg N w0 w c a q Z s L)(t:Tm c s)(hL:L.length≤100000)(jm:s.pd.length≤4096)(qi:s.mg.length≤4096)(e9:s.pt.length≤4096) :
  Zi Zb 19 #[.pointer (some ⟨q.e,0,none⟩)] w fun e w'=> ∃x1 x2 x3 x4 x5 x6:Sv,e= .returned (.agg (Y7 s (ZY s.V) L.length x1.v x2.v x3.v x4.v x5.v x6.v))∧
   Eg (N+6) w0 w' c a q (xX Z N s x1.v x2.v x3.v x4.v x5.v x6.v) s L:=by
 have hN:=h.low;have h1:=h.box snZ 51;have HX:=Za (Zl t (Zl hL (Zl jm (Zl qi e9))));have HN:=Za hN;clear h t hL jm qi e9 hN;go_enter Tryz.func19,Tryz.ntmps19;go_upto_region 1 with (fail);generalize hW:w.alloc (.cells _ 51)=V0;have eW:w.alloc (.cells snZ 51)=V0:=hW;rw [eW] at h1;generalize w.heap.size=b at*;have H1:=Za h1;have y22:=Eg.x22 h1;clear hW eW h1;go_wp2_with fail;refine (Eg.totals H1.out).mono ?_;rintro e w2 ⟨rfl,Gk⟩;have h2:=(H1.out.below Gk).box #[.int .u64 s.D,.int .u64 s.P,.int .u64 s.B] 132;have H2:=Za h2;clear H1 Gk y22 h2;go_upto_region 4 with (first | (refine Zm rfl _ _ _ rfl w2.heap.size #[.int .u64 s.D,.int .u64 s.P,.int .u64 s.B] rfl rfl 132 _ (heap_alloc_new w2 _) wU rfl (yo _ _ _) ?_; rw [Zu]));generalize w2.heap.size=tb at*;generalize w2.alloc (.cells #[.int .u64 s.D,.int .u64 s.P,.int .u64 s.B] 132)=W2 at*;simp only [List.append_eq,List.cons_append,List.nil_append,Act.put];refine PG (fun w'=>Zy w' q.e 107 (Un c a q)∧Zy w' tb 132 #[.int .u64 s.D,.int .u64 s.P,.int .u64 s.B]) 14 [0,1,2,4,5,6,8,9,10,11,12,14,15,16,17,18,19,20,21,22,23,24,26,27,28,29,30,32,33,34,35,36,38,39,40,41,42,44,45,46,47,48,50,51,52,53,54,56,57,58,59,60,62,63,64,65,66,68,69,70,71,72] (?_) ?_
 ·exact ⟨H2.out.drew.blk,H2.out.drew.blkAt (r:=N+1) ZQ Ze xput_same⟩
 simp only [qF,qH];show ZB _ _ _ _ (_::_::_::_::_::_::_::_::_::_::_::_::_::_::_::_::_::_::_::_::_::_::_::_::_::_::_::_::_::_::_::_::_::_::_::_::_::_::_::_::_::_::_::_::_::_::_::_::_::_::_::_::_::_::_::_::_::_::_::_::_::_::[]) _;iterate 10 (go_big_quiet_step ((intros; rfl)))
 refine Yw _ _ ⟨q.e,21,none⟩ (.pointer (some ⟨a.r,0,none⟩)) rfl rfl rfl (fun w h=>by simp [go_sem,h]) (fun w h=>h.1.cell 21) ?_;simp only [qB];iterate 1 (go_big_quiet_step ((intros; rfl)))
 refine Yw _ _ ⟨tb,0,none⟩ (.int .u64 s.D) rfl rfl rfl (fun w h=>by simp [go_sem,h]) (fun w h=>h.2.cell 0) ?_;simp only [qB];iterate 1 (go_big_quiet_step ((intros; rfl)))
 refine Yw _ _ ⟨tb,1,none⟩ (.int .u64 s.P) rfl rfl rfl (fun w h=>by simp [go_sem,h]) (fun w h=>h.2.cell 1) ?_;simp only [qB];iterate 1 (go_big_quiet_step ((intros; rfl)))
 refine Yw _ _ ⟨tb,2,none⟩ (.int .u64 s.B) rfl rfl rfl (fun w h=>by simp [go_sem,h]) (fun w h=>h.2.cell 2) ?_;simp only [qB];iterate 4 (go_big_quiet_step ((intros; rfl)))
 refine Yw _ _ ⟨q.e,21,none⟩ (.pointer (some ⟨a.r,0,none⟩)) rfl rfl rfl (fun w h=>by simp [go_sem,h]) (fun w h=>h.1.cell 21) ?_;simp only [qB];iterate 4 (go_big_quiet_step ((intros; rfl)))
 refine Yw _ _ ⟨q.e,27,none⟩ (.pointer (some ⟨a.p,0,none⟩)) rfl rfl rfl (fun w h=>by simp [go_sem,h]) (fun w h=>h.1.cell 27) ?_;simp only [qB];iterate 4 (go_big_quiet_step ((intros; rfl)))
 refine Yw _ _ ⟨q.e,24,none⟩ (.pointer (some ⟨a.n,0,none⟩)) rfl rfl rfl (fun w h=>by simp [go_sem,h]) (fun w h=>h.1.cell 24) ?_;simp only [qB];iterate 4 (go_big_quiet_step ((intros; rfl)))
 refine Yw _ _ ⟨q.e,24,none⟩ (.pointer (some ⟨a.n,0,none⟩)) rfl rfl rfl (fun w h=>by simp [go_sem,h]) (fun w h=>h.1.cell 24) ?_;simp only [qB];iterate 4 (go_big_quiet_step ((intros; rfl)))
 refine Yw _ _ ⟨q.e,28,none⟩ (.pointer (some ⟨q.d,0,none⟩)) rfl rfl rfl (fun w h=>by simp [go_sem,h]) (fun w h=>h.1.cell 28) ?_;simp only [qB];iterate 4 (go_big_quiet_step ((intros; rfl)))
 refine Yw _ _ ⟨q.e,29,none⟩ (.pointer (some ⟨q.q,0,none⟩)) rfl rfl rfl (fun w h=>by simp [go_sem,h]) (fun w h=>h.1.cell 29) ?_;simp only [qB];iterate 4 (go_big_quiet_step ((intros; rfl)))
 refine Yw _ _ ⟨q.e,23,none⟩ (.pointer (some ⟨a.k,0,none⟩)) rfl rfl rfl (fun w h=>by simp [go_sem,h]) (fun w h=>h.1.cell 23) ?_;simp only [qB];iterate 4 (go_big_quiet_step ((intros; rfl)))
 refine Yw _ _ ⟨q.e,25,none⟩ (.pointer (some ⟨a.m,0,none⟩)) rfl rfl rfl (fun w h=>by simp [go_sem,h]) (fun w h=>h.1.cell 25) ?_;simp only [qB];iterate 4 (go_big_quiet_step ((intros; rfl)))
 refine Yw _ _ ⟨q.e,26,none⟩ (.pointer (some ⟨a.u,0,none⟩)) rfl rfl rfl (fun w h=>by simp [go_sem,h]) (fun w h=>h.1.cell 26) ?_;simp only [qB];refine Zj ?_;have E0:=Za H2.out.drew;clear H2;generalize W2.drew=U0 at*;refine Qt (i:=3) ?_;refine JM #[.pointer (some ⟨q.e,20,none⟩)] Tryz.call53 ((eD E0.out).mono ?_);rintro e _ ⟨rfl,rfl⟩;refine ⟨_,rfl,⟨E0.out.blk,E0.out.blkAt (r:=N+1) ZQ Ze (by exact xput_same)⟩,?_⟩;refine Qt (i:=7) ?_;try simp only [qA]
 refine JM #[.pointer (some ⟨q.e,20,none⟩)] Tryz.call54 ((Bc E0.out HX.out.1.b0 HX.out.1.b1 HX.out.1.l HX.out.1.q).mono ?_);rintro e _ ⟨rfl,m1,rfl⟩;have E2:=Za (E0.out.drewN m1);clear E0;generalize U0.drewN m1=U2 at*;refine ⟨_,rfl,⟨E2.out.blk,E2.out.blkAt (r:=N+1) ZQ Ze (by exact xput_same)⟩,?_⟩;refine Qt (i:=13) ?_;try simp only [qA]
 refine JM #[.pointer (some ⟨a.r,0,none⟩)] Tryz.call55 ((Eg.all E2.out).mono ?_);rintro e U3 ⟨v1,rfl,h3,_⟩;obtain ⟨a1,c1,rfl⟩:=XH (h3.row (r:=N+2) ZQ Ze xput_same);have E3:=Za h3;clear h3 E2;refine ⟨_,rfl,⟨E3.out.blk,E3.out.blkAt (r:=N+1) ZQ Ze Ua⟩,?_⟩;refine Qt (i:=25) ?_;try simp only [qA]
 refine JM #[.pointer (some ⟨a.r,0,none⟩)] Tryz.call56 ((Eg.active E3.out).mono ?_);rintro e _ ⟨rfl,rfl⟩;refine ⟨_,rfl,⟨E3.out.blk,E3.out.blkAt (r:=N+1) ZQ Ze Ua⟩,?_⟩;refine Qt (i:=31) ?_;try simp only [qA]
 refine JM #[.pointer (some ⟨a.p,0,none⟩)] Tryz.call57 ((Eg.pall E3.out HX.out.2.2.1).mono ?_);rintro e U5 ⟨v2,rfl,h5⟩;obtain ⟨a2,c2,rfl⟩:=XH (h5.row (r:=N+2+1) ZQ Ze xput_same);have E5:=Za h5;clear h5 E3;refine ⟨_,rfl,⟨E5.out.blk,E5.out.blkAt (r:=N+1) ZQ Ze IM⟩,?_⟩;refine Qt (i:=37) ?_;try simp only [qA]
 refine JM #[.pointer (some ⟨a.n,0,none⟩),.int .i64 0] Tryz.call58 ((Eg.lall E5.out 0).mono ?_);rintro e U6 ⟨v3,rfl,h6⟩;rw [show UW s.F s.W 0=s.F from rfl] at h6;obtain ⟨a3,c3,rfl⟩:=XH (h6.row (r:=N+2+1+1) ZQ Ze xput_same);have E6:=Za h6;clear h6 E5;refine ⟨_,rfl,⟨E6.out.blk,E6.out.blkAt (r:=N+1) ZQ Ze (by rw [xput_ne Ze,xput_ne Ze,xput_ne Ze,xput_same])⟩,?_⟩;refine Qt (i:=43) ?_;try simp only [qA]
 refine JM #[.pointer (some ⟨a.n,0,none⟩),.int .i64 1] Tryz.call58 ((Eg.lall E6.out 1).mono ?_);rintro e U7 ⟨v4,rfl,h7⟩;rw [show UW s.F s.W 1=s.W from rfl] at h7;obtain ⟨a4,c4,rfl⟩:=XH (h7.row (r:=N+2+1+1+1) ZQ Ze xput_same);have E7:=Za h7;clear h7 E6;refine ⟨_,rfl,⟨E7.out.blk,E7.out.blkAt (r:=N+1) ZQ Ze jU⟩,?_⟩;refine Qt (i:=49) ?_;try simp only [qA]
 refine JM #[.pointer (some ⟨q.d,0,none⟩)] Tryz.call59 ((Eg.mrow E7.out HX.out.2.2.2.1).mono ?_);rintro e U8 ⟨v5,rfl,h8⟩;obtain ⟨a5,c5,rfl⟩:=XH (h8.row (r:=N+2+1+1+1+1) ZQ Ze xput_same);have E8:=Za h8;clear h8 E7;refine ⟨_,rfl,⟨E8.out.blk,E8.out.blkAt (r:=N+1) ZQ Ze (by rw [xput_ne Ze,xput_ne Ze,xput_ne Ze,xput_ne Ze,xput_ne Ze,xput_same])⟩,?_⟩;refine Qt (i:=55) ?_;try simp only [qA]
 refine JM #[.pointer (some ⟨q.q,0,none⟩)] Tryz.call60 ((Eg.trow E8.out HX.out.2.2.2.2).mono ?_);rintro e U9 ⟨v6,rfl,h9⟩;obtain ⟨a6,c6,rfl⟩:=XH (h9.row (r:=N+2+1+1+1+1+1) ZQ Ze xput_same);have E9:=Za h9;clear h9 E8;refine ⟨_,rfl,⟨E9.out.blk,E9.out.blkAt (r:=N+1) ZQ Ze M0⟩,?_⟩;refine Qt (i:=61) ?_;try simp only [qA]
 refine JM #[.pointer (some ⟨a.k,0,none⟩)] Tryz.call61 ((Eg.at_ E9.out).mono ?_);rintro e _ ⟨rfl,rfl⟩;refine ⟨_,rfl,⟨E9.out.blk,E9.out.blkAt (r:=N+1) ZQ Ze M0⟩,?_⟩;refine Qt (i:=67) ?_;try simp only [qA]
 refine JM #[.pointer (some ⟨a.m,0,none⟩)] Tryz.call62 ((Eg.carry E9.out).mono ?_);rintro e _ ⟨rfl,m10,rfl⟩;have oa:=Za (E9.out.drewN m10);clear E9;generalize U9.drewN m10=U11 at*;refine ⟨_,rfl,⟨oa.out.blk,oa.out.blkAt (r:=N+1) ZQ Ze M0⟩,?_⟩;refine Qt (i:=73) ?_;try simp only [qA]
 refine JM #[.pointer (some ⟨a.u,0,none⟩)] Tryz.call63 ((Eg.ulen oa.out HX.out.2.1).mono ?_);rintro e U12 ⟨rfl,We⟩;have E12:=Za We;clear We oa;refine ⟨_,rfl,⟨E12.out.blk,E12.out.blkAt (r:=N+1) ZQ Ze M0⟩,?_⟩;try simp only [qA]
 refine FR (fun w'=>Zy w' q.e 107 (Un c a q)∧Zy w' tb 132 #[.int .u64 s.D,.int .u64 s.P,.int .u64 s.B]) (m:=2) (f:=1) [74] (?_) ?_
 ·exact ⟨E12.out.blk,E12.out.blkAt (r:=N+1) ZQ Ze M0⟩
 simp only [qF,qH];show ZB _ _ _ _ [_] _;refine jC 51 _ Yi rfl (Y7 s (ZY s.V) L.length (.slice a1 s.V.length c1) (.slice a2 s.pd.length c2) (.slice a3 s.F.length c3) (.slice a4 s.W.length c4) (.slice a5 s.mg.length c5) (.slice a6 s.pt.length c6)) Yi ?_;simp only [qB];refine Zj ?_;generalize Ff:Y7 s (ZY s.V) L.length (.slice a1 s.V.length c1) (.slice a2 s.pd.length c2) (.slice a3 s.F.length c3) (.slice a4 s.W.length c4) (.slice a5 s.mg.length c5) (.slice a6 s.pt.length c6)=cs;have qp:cs.all (·.oneCell')=true:=by rw [←Ff]; exact OO _ _ _ _ _ _ _ _ _ _ _ _ _ _ _ _ _ _ _ _ _
 have nH:Hid ((Tryz.prog.info? 51).map (·.size)=some cs.size):=Za (by rw [←Ff]; exact Gn);have yV:=Za Ff;clear Ff;have hB:=E12.out.blkAt (r:=N) HN.out Ze II;refine Qt (i:=75) ?_;have Zcc:snZ.size=cs.size:=by rw [←yV.out]; rfl
 refine YE rfl rfl (X8 _ _ _ rfl b cs rfl rfl 51 _ hB nH.out Zcc qp ?_);have h9:=E12.out.setr (r:=N) HN.out Ze II (cs':=cs) (QS hB _) (Xy (S:=fun i=>i=b) (ZM _ _) (.inl rfl) _);have HB:=Za hB;have E9:=Za h9;refine ⟨⟨h9.blk,h9.blkAt (r:=N+1) ZQ Ze II⟩,?_⟩;clear h9 hB E12;refine ⟨by kernel_rfl,ZH ?_⟩;try simp only [qA]
 go_wp2_with fail;refine ZL (v:= .agg cs) (ZU (fn:=Tryz.f19) rfl _ _ b 51 _ (0,0) _ rfl (Yc _ _ _ _ _ _ HB.out) Tryz.underlying51 rfl nH.out) rfl ?_;refine ⟨⟨a1,_,c1⟩,⟨a2,_,c2⟩,⟨a3,_,c3⟩,⟨a4,_,c4⟩,⟨a5,_,c5⟩,⟨a6,_,c6⟩,by rw [←yV.out]; rfl,?_⟩;have hN:=HN.out;refine E9.out.remap Ze (fun k=>if k < N then k else k+2) (fun k hk=>if_pos Ze) (fun k hk=>by split <;> omega) (fun k hk=>by split <;> omega) (fun i j hi hj e=>by split at e <;> split at e <;> omega) fun k h1 h2=>?_
 by_cases hk:k < N
 ·rw [if_pos hk];unfold xX;rw [xput_ne Ze,xput_ne Ze,xput_ne Ze,xput_ne Ze,xput_ne Ze,xput_ne Ze,xput_ne Ze,xput_ne Ze,xput_ne Ze,xput_ne Ze,xput_ne Ze,xput_ne Ze,xput_ne Ze,xput_ne Ze,xput_ne Ze]
 ·rw [if_neg hk];have hc:k=N∨k=N+1∨k=N+2∨k=N+3∨k=N+4∨k=N+5:=by omega
  unfold xX
  rcases hc with rfl | rfl | rfl | rfl | rfl | rfl
  ·rw [xput_ne Ze,xput_ne Ze,xput_ne Ze,xput_ne Ze,xput_ne Ze,xput_same,xput_ne Ze,xput_ne Ze,xput_ne Ze,xput_ne Ze,xput_ne Ze,xput_ne Ze,xput_same]; rfl
  ·rw [xput_ne Ze,xput_ne Ze,xput_ne Ze,xput_ne Ze,xput_same,xput_ne Ze,xput_ne Ze,xput_ne Ze,xput_ne Ze,xput_ne Ze,xput_same]; rfl
  ·rw [xput_ne Ze,xput_ne Ze,xput_ne Ze,xput_same,xput_ne Ze,xput_ne Ze,xput_ne Ze,xput_ne Ze,xput_same]; rfl
  ·rw [xput_ne Ze,xput_ne Ze,xput_same,xput_ne Ze,xput_ne Ze,xput_ne Ze,xput_same]; rfl
  ·rw [xput_ne Ze,xput_same,xput_ne Ze,xput_ne Ze,xput_same]; rfl
  ·rw [xput_same,xput_ne Ze,xput_same]; rfl
end
end
end Go.Proofs.YtianiiijaopdpaaGreat
