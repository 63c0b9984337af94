/- Part 23 of 31: L16Apply L16Req L16Perf L16Bool L16Step Sl. -/
import Derived.Test.YtobgbcdgffgdhaaGreatZw00
import Derived.Test.YtobgbcdgffgdhaaGreatZw13
import Derived.Test.YtobgbcdgffgdhaaGreatZw21
namespace Go.Proofs.YtobgbcdgffgdhaaGreat
set_option linter.unusedVariables false
set_option linter.unusedSimpArgs false
set_option maxRecDepth 100000
set_option maxHeartbeats 8000000
open _root_.And renaming intro -> Zn
open _root_.Go.RowKit renaming Below -> Zp
open _root_.Go.RowKit.Below renaming refl -> Zo
open _root_.Go.Proofs.YtobgbcdgffgdhaaGreat.Zu renaming alloc -> Yw, new -> Zt
open _root_.List renaming getElem?_eq_getElem -> Zg, getElem?_eq_some_iff -> Zj, length_take -> Xr, mem_cons -> ZU, mem_of_getElem? -> Zy, not_mem_nil -> Yg, replicate -> ZP
open _root_.Nat renaming le_refl -> Zh, lt_of_lt_of_le -> YE, zero_le -> Qu
open _root_.Option.some renaming injEq -> QC
open _root_.Go.Result renaming andThen -> YZ
open _root_.Go.Proofs.Tryz renaming prog -> Zb
open _root_.Go renaming Value -> Zk, World -> Zc, below_setRow -> Xt, setRow_heap -> YA, setRow_other -> VA, undef -> Kr, wpList_build -> JR
open _root_.Go.Value renaming ownBlock -> Y7, slice -> Yj
open _root_.Go.Proofs.YtobgbcdgffgdhaaGreat.World.rangeAt renaming same -> QM
open Go.Proofs.Tryz
theorem zq {G H:Prop} (k:H) (h:DE H->G:=by
  intro zk;refine QP 240 _ (w.heap.size+1) 240 (Yx (p1,p2)) _ rfl rfl rfl (fun w' h=>T1.o.2.1.below h T1.o.2.1.lt) underlying240 rfl NK ?_;exact zk.o) :G:=h ⟨k⟩
theorem Pv {G H:Prop} (k:H) (h:DE H->G:=by
  intro zk;iterate 5 (go_big_quiet_step ((intros; rfl)))
  exact zk.o) :G:=h ⟨k⟩
theorem Zhk {G H:Prop} (k:H) (h:DE H->G:=by
  intro zk;refine O7 (.agg (Yx (p2,p1))) #[.agg (Yx (p1,p2))] ZC ZC call187 (fun w' h=>(Is (p1,p2) w').mono fun e w'' ⟨he,hb⟩=>⟨he,h.trans (hb.mono h.size)⟩) ?_;exact zk.o) :G:=h ⟨k⟩
theorem zT6 {G:Prop} (h:G:=by
  refine ⟨R2.o.2.2,?_⟩;refine Da ?_;refine Db (i:=13) ZC (of_decide_eq_true ZC) ?_;refine JC #[.agg (Zd s),.agg (Zd d),.agg (Zi c)] call290 ((HA.o w2.drew).mono ?_);rintro e w3 ⟨rfl,b3⟩;have D3:Zl (Zu w3 (w.heap.size+1) 30 (Zi c)):=Za (R2.o.2.2.below b3 R2.o.2.2.lt);have F3:Zl (w3.there g (i*7) 7/\(w3.setCells g (i*7) (Zd (DV s)).toList).there g (j*7) 7/\((w3.setCells g (i*7) (Zd (DV s)).toList).setCells g (j*7) (Zd (NQ s d)).toList).ownsRow 0 68 7 (.slice (some ⟨g,0,none⟩) l.length cp) l.length (Xz ((l.set i (DV s)).set j (NQ s d)))):=Za (na (KE O2.o (fun k hk=>by simp only [Value.ownBlock,Option.some.injEq] at hk; subst hk; exact b3.block _ G2.o)) HIJ.o.1 HIJ.o.2.1 HIJ.o.2.2 _ _);have K3:Zl (Zx (fun k=>k=g) w w3):=Za (Zx.of_below (T2.o.2.2.drew.trans (b3.mono T2.o.2.2.size)));have N3:Zl (g≠w.heap.size+1):=Za Ze;clear b3;refine ⟨_,rfl,D3.o,?_⟩;refine Da ?_;refine Fm (f:=3) (fun w'=>Zu w' (w.heap.size+1) 30 (Zi c)) [14,15,16,17,18] (fun _ h=>h) ZC D3.o ?_;refine JL ?_;refine Ol ?_;refine Pv ?_;refine XK ?_;refine Db (i:=19) ZC (of_decide_eq_true ZC) ?_;refine Yz rfl rfl (wp_store_mid _ _ _ rfl g (i*7) (Zd (DV s)) rfl rfl F3.o.1 Yb (Ys _) ?_);have D4:Zl (Zu (w3.setCells g (i*7) (Zd (DV s)).toList) (w.heap.size+1) 30 (Zi c)):=Za (D3.o.kept (Zx.setCells _ _ _ (Zx.refl (fun k=>k=g) w3) (.inl rfl)) (fun e=>N3.o e.symm));have F4:Zl ((w3.setCells g (i*7) (Zd (DV s)).toList).there g (j*7) 7/\((w3.setCells g (i*7) (Zd (DV s)).toList).setCells g (j*7) (Zd (NQ s d)).toList).ownsRow 0 68 7 (.slice (some ⟨g,0,none⟩) n cp) n (Xz ((l.set i (DV s)).set j (NQ s d)))/\Zx (fun k=>k=g) w (w3.setCells g (i*7) (Zd (DV s)).toList)):=Za (by rw [<-HN.o]; exact ⟨F3.o.2.1,F3.o.2.2,Zx.setCells _ _ _ K3.o (.inl rfl)⟩);clear F3 K3 D3;generalize w3.setCells g (i*7) (Zd (DV s)).toList=w4 at*;refine ⟨D4.o,?_⟩;refine Da ?_;refine Fm (f:=1) (fun w'=>Zu w' (w.heap.size+1) 30 (Zi c)) [20] (fun _ h=>h) ZC D4.o ?_;refine JL ?_;refine Hf ?_;refine Gz ?_;refine XK ?_;refine Db (i:=21) ZC (of_decide_eq_true ZC) ?_;refine Yz rfl rfl (wp_store_mid _ _ _ rfl g (j*7) (Zd (NQ s d)) rfl rfl F4.o.1 Yb (Ys _) ?_);refine ⟨D4.o.kept (Zx.setCells _ _ _ (Zx.refl (fun k=>k=g) _) (.inl rfl)) (fun e=>N3.o e.symm),?_⟩;refine Da ?_;refine ⟨by kernel_rfl,?_⟩;refine Gy ?_;have Z:Zl ((w4.setCells g (j*7) (Zd (NQ s d)).toList).ownsRow 0 68 7 (.slice (some ⟨g,0,none⟩) n cp) n (Xz ((l.set i (DV s)).set j (NQ s d)))/\Zx (fun k=>k=g) w (w4.setCells g (j*7) (Zd (NQ s d)).toList)):=Za ⟨F4.o.2.1,Zx.setCells _ _ _ F4.o.2.2 (.inl rfl)⟩;generalize w4.setCells g (j*7) (Zd (NQ s d)).toList=w5 at*;go_wp2_with fail;go_ret;exact ⟨rfl,Z.o⟩) :G:=h
theorem kQ {G:Prop} (h:G:=by
  rw [Zd2 (v:= { v with bal:=v.bal - BE v c}) h1 h2 h3] at h;simp at h) :G:=h
theorem kS {G:Prop} (h:G:=by
  rw [Zd0 (v:= { v with bal:=v.bal - BE v c}) h1 h2] at h;simp at h) :G:=h
theorem kT {G:Prop} (h:G:=by
  rw [Zd3 (v:= { v with bal:=v.bal - BE v c}) h1] at h;simp at h) :G:=h
section
open Go Go.RowKit Go.Deep
theorem Tx {P:Program}{fn:Func}{p q u:Tmp}{ty:TypeId}(h:fn.results= #[.cell p ty,.cell q ty,.tmp u])(tmps:Array Zk)(w:Zc)(g g2:Nat)(t:TypeId)(cs cs2:Array Zk)(fr fr2:Nat × Nat)(d:TypeDesc)
  (hp:tmps.getD p Kr= .pointer (some ⟨g,0,none⟩)) (hq:tmps.getD q Kr= .pointer (some ⟨g2,0,none⟩)) (hg:w.heap[g]?=some (.cells cs t fr)) (Wv:w.heap[g2]?=some (.cells cs2 t fr2))
  (hu:P.underlying ty=some d) (hd:(match d with | .struct _ | .array _ _=>true | _=>false)=true) (hi:(P.info? ty).map (·.size)=some cs.size) (GQ:(P.info? ty).map (·.size)=some cs2.size) :
  (results fn tmps).run P w= .ok (.tuple #[.agg cs,.agg cs2,tmps.getD u Kr]) w:=by
 have e:(results fn tmps).run P w=((asAddr (tmps.getD p Kr)).run P w).andThen fun a w₁=>((loadVar ty a).run P w₁).andThen fun v w₂=>((asAddr (tmps.getD q Kr)).run P w₂).andThen fun a2 w₃=>((loadVar ty a2).run P w₃).andThen fun v2 w₄=> .ok (.tuple #[v,v2,tmps.getD u Kr]) w₄:=by
  simp only [results,h];simp [Sem.run_bind,YZ]
 rw [e,hp,hq];simp [asAddr,run_loadVar_row w g t ty cs fr d hg hu hd hi,run_loadVar_row w g2 t ty cs2 fr2 d Wv hu hd GQ,YZ]
def Fiv (w W:Zc)(s d:ZN)(c:Nat->Int) :Prop:=
 ea w W s d c/\Zu W (w.heap.size+3) 68 (Zd ZS)/\Zu W (w.heap.size+4) 68 (Zd ZS)
section
variable {w W W':Zc} {s d:ZN} {c:Nat->Int}
theorem Fiv.new (w:Zc)(s d:ZN)(c:Nat->Int) :Fiv w (((((w.alloc (.cells (Zd s) 68)).alloc (.cells (Zd d) 68)).alloc (.cells (Zi c) 30)).alloc (.cells (Zd ZS) 68)).alloc (.cells (Zd ZS) 68)) s d c:=by
 have h:=ea.new w s d c;have hs:(((w.alloc (.cells (Zd s) 68)).alloc (.cells (Zd d) 68)).alloc (.cells (Zi c) 30)).heap.size=w.heap.size+3:=ZE;generalize ((w.alloc (.cells (Zd s) 68)).alloc (.cells (Zd d) 68)).alloc (.cells (Zi c) 30)=W at*;refine ⟨h.next (((Zo _ _).alloc (Zh _) _).alloc ZE _),?_,?_⟩
 ·have:=Yw (Zt W 68 (Zd ZS)) (.cells (Zd ZS) 68);rwa [hs] at this
 ·have:=D6 W (.cells (Zd ZS) 68) (Zd ZS) 68;rwa [hs] at this
theorem Fiv.next (h:Fiv w W s d c)(hb:Zp W.heap.size W W') :Fiv w W' s d c:=⟨h.1.next hb,h.2.1.below hb h.2.1.lt,h.2.2.below hb h.2.2.lt⟩
end
theorem ph (s d:ZN)(c:Nat->Int)(w:Zc)(hs:Yh s)(hd:Yh d)(hn:EA s d (c 6)=0) :
  Z3 290 #[.agg (Zd s),.agg (Zd d),.agg (Zi c)] w (.tuple #[.agg (Zd (DV s)),.agg (Zd (NQ s d)),.int .i64 0]):=by
 have HT:=Za (Fiv.new w s d c);have HC:=Za (fun w=>Nt s d c w hs hd);rw [hn] at HC;have hk:=OK hn;obtain ⟨t,ht⟩:=ZT (d.bal+s.bal);have hw:IntKind.u64.wrap (d.bal+s.bal)=t:=by
  have h1:=hs.bal;have h2:=hd.bal;rw [ht];have h3:0<=t:=Ze;have h4:t<=18446744073709551615:=Ze;simp [IntKind.wrap,IntKind.signed,IntKind.bits]; omega
 have E:Zl (Zd (NQ s d)=(Zd d).setIfInBounds 0 (.int .u64 t)):=Za (by rw [<-ht]; rfl);have E2:Zl (Zd (DV s)=((Zd s).setIfInBounds 0 (.int .u64 0)).setIfInBounds 1 (.int .i64 7)):=Za rfl;clear hs hd hn hk ht;go_enter func290,ntmps290;go_upto_region 1 with (fail);simp only [Gk];generalize ((((w.alloc (.cells (Zd s) 68)).alloc (.cells (Zd d) 68)).alloc (.cells (Zi c) 30)).alloc (.cells (Zd ZS) 68)).alloc (.cells (Zd ZS) 68)=W at*;go_wp2_with (first | (refine Kz 68 w.heap.size HT.o.1.1 underlying68 Yb ?_) | (refine Kz 68 (w.heap.size+1) HT.o.1.2.1 underlying68 Yb ?_) | (refine Kz 30 (w.heap.size+2) HT.o.1.2.2.1 underlying30 X7 ?_));refine (HC.o _).mono ?_;rintro e w1 ⟨rfl,b1⟩;have T1:=Za (HT.o.next b1);clear HT b1 HC;have f0:=T1.o.1.1.frozen 0;have f1:=T1.o.1.1.frozen 1;have g0:=T1.o.1.2.1.frozen 0;have x0:=QS T1.o.1.1 0;have y0:=QS T1.o.1.2.1 0;have x1:=QS T1.o.1.1 1;go_upto_region 7 with (fail);have Z:Zl (Zu (((w1.setCell ⟨w.heap.size+1,0,none⟩ (.int .u64 t)).setCell ⟨w.heap.size,0,none⟩ (.int .u64 0)).setCell ⟨w.heap.size,1,none⟩ (.int .i64 7)) w.heap.size 68 (Zd (DV s))/\Zu (((w1.setCell ⟨w.heap.size+1,0,none⟩ (.int .u64 t)).setCell ⟨w.heap.size,0,none⟩ (.int .u64 0)).setCell ⟨w.heap.size,1,none⟩ (.int .i64 7)) (w.heap.size+1) 68 (Zd (NQ s d))/\
   Zu (((w1.setCell ⟨w.heap.size+1,0,none⟩ (.int .u64 t)).setCell ⟨w.heap.size,0,none⟩ (.int .u64 0)).setCell ⟨w.heap.size,1,none⟩ (.int .i64 7)) (w.heap.size+3) 68 (Zd ZS)/\Zu (((w1.setCell ⟨w.heap.size+1,0,none⟩ (.int .u64 t)).setCell ⟨w.heap.size,0,none⟩ (.int .u64 0)).setCell ⟨w.heap.size,1,none⟩ (.int .i64 7)) (w.heap.size+4) 68 (Zd ZS)/\
   Zp w.heap.size w (((w1.setCell ⟨w.heap.size+1,0,none⟩ (.int .u64 t)).setCell ⟨w.heap.size,0,none⟩ (.int .u64 0)).setCell ⟨w.heap.size,1,none⟩ (.int .i64 7))):=by
  obtain ⟨⟨h1,h2,-,h3⟩,h4,h5⟩:=T1.o;refine Za ⟨?_,?_,?_,?_,?_⟩
  ·rw [E2.o];exact ((h1.far ZE _).set_ 0 _).set_ 1 _
  ·rw [E.o];exact ((h2.set_ 0 _).far ZE _).far ZE _
  ·exact ((h4.far ZE _).far ZE _).far ZE _
  ·exact ((h5.far ZE _).far ZE _).far ZE _
  ·exact ((h3.setCell ZE _).setCell ZE _).setCell ZE _
 generalize ((w1.setCell ⟨w.heap.size+1,0,none⟩ (.int .u64 t)).setCell ⟨w.heap.size,0,none⟩ (.int .u64 0)).setCell ⟨w.heap.size,1,none⟩ (.int .i64 7)=w3 at*;clear T1 x0 x1 y0 f0 f1 g0 E E2 hw;have R3:Zl (Zu w3.drew (w.heap.size+3) 68 (Zd ZS)):=Za Z.o.2.2.1;have R4:Zl (Zu (w3.drew.setRow (w.heap.size+3) (Zd (DV s))) (w.heap.size+4) 68 (Zd ZS)):=Za ((VA _ _ _ _ Ze).trans Z.o.2.2.2.1);have S3:Zl (Zu (w3.drew.setRow (w.heap.size+3) (Zd (DV s))) w.heap.size 68 (Zd (DV s))/\Zu (w3.drew.setRow (w.heap.size+3) (Zd (DV s))) (w.heap.size+1) 68 (Zd (NQ s d))):=Za ⟨(VA _ _ _ _ Ze).trans Z.o.1,(VA _ _ _ _ Ze).trans Z.o.2.1⟩;have B3:Zl (Zp w.heap.size w w3.drew):=Za Z.o.2.2.2.2.drew;refine Mz (fun w'=>Zu w' w.heap.size 68 (Zd (DV s))/\Zu w' (w.heap.size+1) 68 (Zd (NQ s d))) 3 1 [0,1] ⟨Z.o.1,Z.o.2.1⟩ ?_;refine JL ?_;show wpQuiet _ _ _ _ [_,_] _;refine KU 68 _ w.heap.size 0 (DV s) _ rfl rfl rfl (fun w' h=>h.1.range) underlying68 rfl Yb ?_;refine X5 ?_;refine KU 68 _ (w.heap.size+1) 0 (NQ s d) _ rfl rfl rfl (fun w' h=>h.2.range) underlying68 rfl Yb ?_;refine X5 ?_;refine XK ?_;clear Z;generalize w3.drew=w4 at*;refine Jg (i:=2) ?_;refine Yz rfl rfl (wp_store_row _ _ _ rfl (w.heap.size+3) (Zd (DV s)) rfl rfl 68 _ R3.o Yb rfl (Ys _) ?_);refine ⟨S3.o,?_⟩;refine GO ?_;refine ⟨by kernel_rfl,?_⟩;refine Mh ?_;go_wp2_with (first | (refine UP (w.heap.size+4) (Zd (NQ s d)) 68 R4.o Yb (Ys _) ?_));refine Gy ?_;go_wp2_with fail;exact bodyPost_ret (v:= .tuple #[.agg (Zd (DV s)),.agg (Zd (NQ s d)),.int .i64 0]) (Tx (fn:=Tryz.f290) rfl _ _ (w.heap.size+3) (w.heap.size+4) 68 _ _ (0,0) (0,0) _ rfl rfl ((VA _ _ _ _ Ze).trans (YA _ _ _ _ _ _ R3.o)) (YA _ _ _ _ _ _ R4.o) underlying68 rfl Yb Yb) rfl ⟨rfl,Xt (Xt B3.o Ze _) Ze _⟩
end
section
open Go Go.RowKit Go.Deep
def inB (p:Int × Int)(n:Nat) :Bool:=decide (0<=p.1/\0<=p.2/\p.1 < n/\p.2 < n)
theorem M3 (p:Int × Int)(n:Nat)(w:Zc) :
  Z3 186 #[.agg (Yx p),.int .i64 n] w (.bool (inB p n)):=by
 have hB:Zu (w.alloc (.cells (Yx p) 240)) w.heap.size 240 (Yx p):=Zt _ _ _;have x0:(w.alloc (.cells (Yx p) 240)).cell? ⟨w.heap.size,0,none⟩=some (.int .i64 p.1):=hB.cell 0;have x1:(w.alloc (.cells (Yx p) 240)).cell? ⟨w.heap.size,1,none⟩=some (.int .i64 p.2):=hB.cell 1;have B:=Za (show Zp w.heap.size w (w.alloc (.cells (Yx p) 240)) from (Zo _ _).alloc (Zh _) _);clear hB;obtain ⟨p1,p2⟩:=p;simp only at x0 x1;go_enter func186,ntmps186;go_upto_region 1 with (fail);generalize w.alloc (.cells (Yx (p1,p2)) 240)=W at*;go_wp2
 ·rename_i h
  go_ret;exact ⟨VJ (decide_eq_decide.2 (by show max p1 p2 < (n:Int) ↔ (0<=p1/\0<=p2/\p1 < n/\p2 < n); omega)),B.o⟩
 ·rename_i h
  go_ret;exact ⟨VJ (decide_eq_false (by show ¬(0<=p1/\0<=p2/\p1 < (n:Int)/\p2 < (n:Int)); omega)).symm,B.o⟩
theorem Is (p:Int × Int)(w:Zc) :
  Z3 187 #[.agg (Yx p)] w (.agg (Yx (p.2,p.1))):=by
 have hB:Zu ((w.alloc (.cells (Yx p) 240)).alloc (.cells (Yx (0,0)) 240)) w.heap.size 240 (Yx p):=Yw (Zt _ _ _) _;have x0:((w.alloc (.cells (Yx p) 240)).alloc (.cells (Yx (0,0)) 240)).cell? ⟨w.heap.size,0,none⟩=some (.int .i64 p.1):=hB.cell 0;have x1:((w.alloc (.cells (Yx p) 240)).alloc (.cells (Yx (0,0)) 240)).cell? ⟨w.heap.size,1,none⟩=some (.int .i64 p.2):=hB.cell 1;have hz:(#[.int .i64 0,.int .i64 0] :Array Zk)=Yx (0,0):=rfl;have Z:=Za (D6 w (.cells (Yx p) 240) (Yx (0,0)) 240);have B:=Za (show Zp w.heap.size w ((w.alloc (.cells (Yx p) 240)).alloc (.cells (Yx (0,0)) 240)) from ((Zo _ _).alloc (Zh _) _).alloc ZE _);clear hB;go_enter func187,ntmps187;go_upto_region 1 with (fail);generalize (w.alloc (.cells (Yx p) 240)).alloc (.cells (Yx (0,0)) 240)=W at*;clear hz;go_wp2_with (first | (refine JR rfl 240 _ rfl ZC ?_; rw [show (Tryz.prog.built 240 _).getD #[]=Yx (p.2,p.1) from by kernel_rfl]) | (refine UP (w.heap.size+1) (Yx (p.2,p.1)) 240 Z.o NK (Ug _) ?_));exact bodyPost_ret (v:= .agg (Yx (p.2,p.1))) (results_cell_row (fn:=Tryz.f187) rfl _ _ (w.heap.size+1) 240 _ (0,0) _ rfl (YA _ _ _ _ _ _ Z.o) underlying240 rfl NK) rfl ⟨rfl,Xt B.o Ze _⟩
def ao (w W:Zc)(p:Int × Int)(c:Nat->Int) :Prop:=
 Zu W w.heap.size 30 (Zi c)/\Zu W (w.heap.size+1) 240 (Yx p)/\Zp w.heap.size w W
theorem ao.new (w:Zc)(p:Int × Int)(c:Nat->Int) :ao w ((w.alloc (.cells (Zi c) 30)).alloc (.cells (Yx p) 240)) p c:=
 ⟨Yw (Zt w _ _) _,D6 w _ _ _,((Zo _ _).alloc (Zh _) _).alloc ZE _⟩
theorem ao.next {w W W':Zc}{p:Int × Int}{c:Nat->Int}(h:ao w W p c)(hb:Zp W.heap.size W W') :ao w W' p c:=
 ⟨h.1.below hb h.1.lt,h.2.1.below hb h.2.1.lt,h.2.2.trans (hb.mono h.2.2.size)⟩
theorem yp (a:Option Addr)(n cp:Nat)(p1 p2:Int)(c:Nat->Int)(w:Zc)(h:inB (p1,p2) n=false) :
  Z3 132 #[.slice a n cp,.int .i64 p1,.int .i64 p2,.agg (Zi c)] w (.int .i64 7):=by
 have HW:=Za (M3 (p1,p2) n);have T:=Za (ao.new w (p1,p2) c);rw [h] at HW;clear h;go_enter func132,ntmps132;go_upto_region 2 with (first | (refine JR rfl 240 _ rfl ZC ?_; rw [show (Tryz.prog.built 240 _).getD #[]=Yx (p1,p2) from by kernel_rfl]) | (refine UP (w.heap.size+1) (Yx (p1,p2)) 240 (D6 w _ _ _) NK (Ug _) ?_; rw [Eh]));generalize (w.alloc (.cells (Zi c) 30)).alloc (.cells (Yx (p1,p2)) 240)=W at*;go_wp2_with (first | (refine Kz 240 (w.heap.size+1) T.o.2.1 underlying240 NK ?_));refine (HW.o _).mono ?_;rintro e w1 ⟨rfl,b1⟩;have T1:=Za (T.o.next b1);clear b1 T HW;go_wp2_with fail;go_ret;exact ⟨rfl,T1.o.2.2⟩
theorem sy (a:Option Addr)(n cp:Nat)(p1 p2:Int)(c:Nat->Int)(w:Zc)(h:inB (p1,p2) n=true)(he:p1=p2) :
  Z3 132 #[.slice a n cp,.int .i64 p1,.int .i64 p2,.agg (Zi c)] w (.int .i64 12):=by
 have HW:=Za (M3 (p1,p2) n);have T:=Za (ao.new w (p1,p2) c);have HE:Zl (decide ((p1,p2)=(p2,p1))=true):=Za (decide_eq_true (by rw [he]));rw [h] at HW;clear h he;go_enter func132,ntmps132;go_upto_region 2 with (first | (refine JR rfl 240 _ rfl ZC ?_; rw [show (Tryz.prog.built 240 _).getD #[]=Yx (p1,p2) from by kernel_rfl]) | (refine UP (w.heap.size+1) (Yx (p1,p2)) 240 (D6 w _ _ _) NK (Ug _) ?_; rw [Eh]));generalize (w.alloc (.cells (Zi c) 30)).alloc (.cells (Yx (p1,p2)) 240)=W at*;go_wp2_with (first | (refine Kz 240 (w.heap.size+1) T.o.2.1 underlying240 NK ?_));refine (HW.o _).mono ?_;rintro e w1 ⟨rfl,b1⟩;have T1:=Za (T.o.next b1);clear b1 T HW;go_wp2_with fail;refine J2 (fun w'=>Zp w1.heap.size w1 w') ZC ZC (Zo _ _).drew ?_;refine zq ?_;refine X5 ?_;refine zq ?_;refine X5 ?_;refine Zhk ?_;refine X5 ?_;refine BL (.bool true) rfl (fun w=>bu rfl rfl HE.o) ?_;refine X5 ?_;refine XK ?_;intro w2 b2;have T2:=Za (T1.o.next b2);clear b2 T1;go_wp2;go_ret;exact ⟨rfl,T2.o.2.2⟩
theorem yo (S:Nat->Prop)(a:Option Addr)(l:List ZN)(cp i j:Nat)(s d:ZN)(c:Nat->Int)(w:Zc)(hL:DH w S a l)(hi:l[i]?=some s)(hj:l[j]?=some d)(Ka:i≠j)(hs:Yh s)(hd:Yh d) :
  Z3 132 #[.slice a l.length cp,.int .i64 i,.int .i64 j,.agg (Zi c)] w (.int .i64 (EA s d (c 6))):=by
 have Fo:=(Zj.1 hi).1;have EE:=(Zj.1 hj).1;obtain ⟨p1,hp1⟩ : ∃p1:Int,(i:Int)=p1:=⟨_,rfl⟩;obtain ⟨p2,mG⟩ : ∃p2:Int,(j:Int)=p2:=⟨_,rfl⟩;obtain ⟨n,hn⟩:=ZT (l.length);have h:inB ((i:Int),(j:Int)) n=true:=decide_eq_true FK;have HE:Zl (decide (((i:Int),(j:Int))=((j:Int),(i:Int)))=false):=Za (decide_eq_false (by simp only [Prod.mk.injEq]; omega));rw [hp1,mG] at h HE ⊢;rw [hn] at Fo EE ⊢;have HW:=Za (M3 (p1,p2) n);have T:=Za (ao.new w (p1,p2) c);rw [h] at HW;have HC:=Za (fun w=>Nt s d c w hs hd);generalize EA s d (c 6)=r at*;obtain ⟨g,off,rfl,rs⟩:=hL.at hi;obtain ⟨g',Zg6,e',rd⟩:=hL.at hj;injection e' with e';injection e' with e1 e2 e3;subst e1 e2;have hg:g < w.heap.size:=by
  obtain ⟨b,o,e1,-,e2,-⟩:=hL Ze;injection e1 with e1;injection e1 with e1;omega
 have RS:=Za (Zn rs (Zn rd hg));have HP:=Za (Zn hp1 mG);clear rs rd hL hi hj hs hd h e3 hn hp1 mG;go_enter func132,ntmps132;go_upto_region 2 with (first | (refine JR rfl 240 _ rfl ZC ?_; rw [show (Tryz.prog.built 240 _).getD #[]=Yx (p1,p2) from by kernel_rfl]) | (refine UP (w.heap.size+1) (Yx (p1,p2)) 240 (D6 w _ _ _) NK (Ug _) ?_; rw [Eh]));generalize (w.alloc (.cells (Zi c) 30)).alloc (.cells (Yx (p1,p2)) 240)=W at*;go_wp2_with (first | (refine Kz 240 (w.heap.size+1) T.o.2.1 underlying240 NK ?_));refine (HW.o _).mono ?_;rintro e w1 ⟨rfl,b1⟩;have T1:=Za (T.o.next b1);clear b1 T HW;go_wp2_with fail;refine J2 (fun w'=>Zp w1.heap.size w1 w') ZC ZC (Zo _ _).drew ?_;refine zq ?_;refine X5 ?_;refine zq ?_;refine X5 ?_;refine Zhk ?_;refine X5 ?_;refine BL (.bool false) rfl (fun w=>bu rfl rfl HE.o) ?_;refine X5 ?_;refine XK ?_;intro w2 b2;have T2:=Za (T1.o.next b2);clear b2 T1;have RS2:Zl (w2.rangeAt g (off+i*7) s.row/\w2.rangeAt g (off+j*7) d.row):=Za ⟨QM RS.o.1 (T2.o.2.2.block g RS.o.2.2),QM RS.o.2.1 (T2.o.2.2.block g RS.o.2.2)⟩;obtain ⟨rfl,rfl⟩:=HP.o;have g2:g < w2.heap.size:=YE RS.o.2.2 T2.o.2.2.size;have k1: ¬(i:Int)< 0:=Ze;have k2: ¬(n:Int)<=(i:Int):=Ze;have k3:(i:Int)< (n:Int):=Ze;have m1: ¬(j:Int)< 0:=Ze;have m2: ¬(n:Int)<=(j:Int):=Ze;have m3:(j:Int)< (n:Int):=Ze;go_wp2;refine J2 (fun w'=>Zp w2.heap.size w2 w') ZC ZC (Zo _ _).drew ?_;refine DL ?_;refine KU 68 _ g (off+i*7) s _ rfl rfl rfl (fun w' h=>QM RS2.o.1 (h.block g g2)) underlying68 rfl Yb ?_;refine X5 ?_;refine DL ?_;refine KU 68 _ g (off+j*7) d _ rfl rfl rfl (fun w' h=>QM RS2.o.2 (h.block g g2)) underlying68 rfl Yb ?_;refine X5 ?_;refine QP 30 _ w.heap.size 30 (Zi c) _ rfl rfl rfl (fun w' h=>T2.o.1.below h T2.o.1.lt) underlying30 rfl X7 ?_;refine X5 ?_;refine O7 (.int .i64 r) #[.agg (Zd s),.agg (Zd d),.agg (Zi c)] ZC ZC call188 (fun w' h=>(HC.o w').mono fun e w'' ⟨he,hb⟩=>⟨he,h.trans (hb.mono h.size)⟩) ?_;refine X5 ?_;go_big_quiet_step ((intros; rfl));refine XK ?_;intro w3 b3;have B3:=Za (T2.o.2.2.trans (b3.mono T2.o.2.2.size));go_wp2;go_ret;exact ⟨rfl,B3.o⟩
theorem Dw (S:Nat->Prop)(a:Option Addr)(l:List ZN)(cp:Nat)(p:Int × Int)(c:Nat->Int)(w:Zc)(hL:DH w S a l)(hf: ∀v ∈ l,Yh v) :
  Z3 132 #[.slice a l.length cp,.int .i64 p.1,.int .i64 p.2,.agg (Zi c)] w (.int .i64 (DK l p (c 6))):=by
 obtain ⟨p1,p2⟩:=p
 by_cases h:0<=p1/\0<=p2/\p1 < l.length/\p2 < l.length
 ·obtain ⟨i,rfl⟩:=Int.eq_ofNat_of_zero_le h.1;obtain ⟨j,rfl⟩:=Int.eq_ofNat_of_zero_le h.2.1;obtain ⟨s,hs⟩ : ∃s,l[i]?=some s:=⟨_,Zg Ze⟩;obtain ⟨d,hd⟩ : ∃d,l[j]?=some d:=⟨_,Zg Ze⟩;rw [sw (c 6) hs hd]
  by_cases he:i=j
  ·rw [if_pos he];exact sy a l.length cp i j c w (decide_eq_true h) Ze
  ·rw [if_neg he];exact yo S a l cp i j s d c w hL hs hd he (hf s (Zy hs)) (hf d (Zy hd))
 ·have e:DK l (p1,p2) (c 6)=7:=by
   unfold DK;rw [if_pos FK]
  rw [e];exact yp a l.length cp p1 p2 c w (decide_eq_false h)
end
section
open Go Go.RowKit Go.Deep
def Co (w W:Zc)(p:Int × Int)(c:Nat->Int) :Prop:=
 Zu W w.heap.size 240 (Yx p)/\Zu W (w.heap.size+1) 30 (Zi c)/\Zp w.heap.size w W
theorem Co.new (w:Zc)(p:Int × Int)(c:Nat->Int) :Co w ((w.alloc (.cells (Yx p) 240)).alloc (.cells (Zi c) 30)) p c:=
 ⟨Yw (Zt w _ _) _,D6 w _ _ _,((Zo _ _).alloc (Zh _) _).alloc ZE _⟩
theorem Co.next {w W W':Zc}{p:Int × Int}{c:Nat->Int}(h:Co w W p c)(hb:Zp W.heap.size W W') :Co w W' p c:=
 ⟨h.1.below hb h.1.lt,h.2.1.below hb h.2.1.lt,h.2.2.trans (hb.mono h.2.2.size)⟩
theorem gS (S:Nat->Prop)(a:Option Addr)(l:List ZN)(cp:Nat)(p:Int × Int)(c:Nat->Int)(w:Zc)(hL:DH w S a l)(hf: ∀v ∈ l,Yh v)(h:DK l p (c 6)≠0) :
  Z3 273 #[.agg (Yx p),.slice a l.length cp,.agg (Zi c)] w (.bool false):=by
 have T:=Za (Co.new w p c);have HR:=Za (fun w (hL:DH w S a l)=>Dw S a l cp p c w hL hf);have HL:=Za (show DH ((w.alloc (.cells (Yx p) 240)).alloc (.cells (Zi c) 30)) S a l from hL.below T.o.2.2);generalize DK l p (c 6)=r at*;have q:(r != 0)=true:=KB;obtain ⟨n,hn⟩:=ZT (l.length);rw [hn] at HR ⊢;obtain ⟨p1,p2⟩:=p;simp only at HR;clear hL hf h hn;go_enter func273,ntmps273;go_upto_region 1 with (fail);generalize (w.alloc (.cells (Yx (p1,p2)) 240)).alloc (.cells (Zi c) 30)=W at*;have x0:W.cell? ⟨w.heap.size,0,none⟩=some (.int .i64 p1):=T.o.1.cell 0;have x1:W.cell? ⟨w.heap.size,1,none⟩=some (.int .i64 p2):=T.o.1.cell 1;go_quiet (fail);have T1:Zl (Co w (W.drewN nq) (p1,p2) c):=Za ⟨T.o.1,T.o.2.1,below_drewN T.o.2.2 nq⟩;have lq:Zl (DH (W.drewN nq) S a l):=Za HL.o;clear T HL x0 x1;generalize W.drewN nq=w1 at*;go_wp2_with (first | (refine Kz 30 (w.heap.size+1) T1.o.2.1 underlying30 X7 ?_));refine (HR.o _ lq.o).mono ?_;rintro e w2 ⟨rfl,b2⟩;have B2:=Za (T1.o.2.2.trans (b2.mono T1.o.2.2.size));clear b2;go_wp2_with fail;go_ret;exact ⟨rfl,B2.o⟩
theorem na {w:Zc}{g cp i j:Nat}{l:List ZN}{s d:ZN}(h:w.ownsRow 0 68 7 (.slice (some ⟨g,0,none⟩) l.length cp) l.length (Xz l))(hi:l[i]?=some s)(hj:l[j]?=some d)(Ka:i≠j)(x y:ZN) :
  w.there g (i*7) 7/\(w.setCells g (i*7) x.row).there g (j*7) 7/\((w.setCells g (i*7) x.row).setCells g (j*7) y.row).ownsRow 0 68 7 (.slice (some ⟨g,0,none⟩) l.length cp) l.length (Xz ((l.set i x).set j y)):=by
 obtain ⟨h1,h2⟩:=NS h hi x;have e:(l.set i x).length=l.length:=List.length_set;rw [<-e] at h1;have Ou:(l.set i x)[j]?=some d:=dR
 obtain ⟨h3,h4⟩:=NS h1 Ou y;rw [e] at h3;exact ⟨h2,h4,h3⟩
theorem gT (g:Nat)(l:List ZN)(cp i j:Nat)(s d:ZN)(c:Nat->Int)(w:Zc)(hO:w.ownsRow 0 68 7 (.slice (some ⟨g,0,none⟩) l.length cp) l.length (Xz l))(hf: ∀v ∈ l,Yh v)
  (hi:l[i]?=some s) (hj:l[j]?=some d) (Ka:i≠j) (hk:EA s d (c 6)=0) :
  Calls Zb 273 #[.agg (Yx ((i:Int),(j:Int))),.slice (some ⟨g,0,none⟩) l.length cp,.agg (Zi c)] w fun e w'=>e= .returned (.bool true)/\
   w'.ownsRow 0 68 7 (.slice (some ⟨g,0,none⟩) l.length cp) l.length (Xz ((l.set i (DV s)).set j (NQ s d)))/\Zx (fun k=>k=g) w w':=by
 have hgw:g < w.heap.size:=(hO.lt g rfl).2;have T:=Za (Co.new w ((i:Int),(j:Int)) c);have HR:=Za (fun w (hL:DH w (fun _=>False) (some ⟨g,0,none⟩) l)=>Dw (fun _=>False) (some ⟨g,0,none⟩) l cp ((i:Int),(j:Int)) c w hL hf);rw [sw (c 6) hi hj,if_neg Ka,hk] at HR;have hs:=hf s (Zy hi);have hd:=hf d (Zy hj);have HA:=Za (fun w=>ph s d c w hs hd hk);have HO:Zl (((w.alloc (.cells (Yx ((i:Int),(j:Int))) 240)).alloc (.cells (Zi c) 30)).ownsRow 0 68 7 (.slice (some ⟨g,0,none⟩) l.length cp) l.length (Xz l)):=Za (KE hO (fun k hk=>by
  simp only [Y7,QC] at hk;subst hk;exact T.o.2.2.block _ hgw))
 have HIJ:=Za (Zn hi (Zn hj Ka));have Fo:=(Zj.1 hi).1;have EE:=(Zj.1 hj).1;obtain ⟨n,hn⟩:=ZT (l.length);have HN:=Za hn;rw [hn] at HR Fo EE ⊢;simp only at HR;clear hO hi hj Ka hk hs hd hf hn;go_enter func273,ntmps273;go_upto_region 1 with (fail);generalize (w.alloc (.cells (Yx ((i:Int),(j:Int))) 240)).alloc (.cells (Zi c) 30)=W at*;have x0:W.cell? ⟨w.heap.size,0,none⟩=some (.int .i64 (i:Int)):=T.o.1.cell 0;have x1:W.cell? ⟨w.heap.size,1,none⟩=some (.int .i64 (j:Int)):=T.o.1.cell 1;go_quiet (fail);have T1:Zl (Co w (W.drewN nq) ((i:Int),(j:Int)) c):=Za ⟨T.o.1,T.o.2.1,below_drewN T.o.2.2 nq⟩;have O1:Zl ((W.drewN nq).ownsRow 0 68 7 (.slice (some ⟨g,0,none⟩) l.length cp) l.length (Xz l)):=Za HO.o;clear T HO x0 x1;generalize W.drewN nq=w1 at*;go_wp2_with (first | (refine Kz 30 (w.heap.size+1) T1.o.2.1 underlying30 X7 ?_));refine (HR.o _ (EK O1.o (fun _ _ h=>h))).mono ?_;rintro e w2 ⟨rfl,b2⟩;have g1:g < w1.heap.size:=(O1.o.lt g rfl).2;have T2:=Za (T1.o.next b2);have O2:Zl (w2.ownsRow 0 68 7 (.slice (some ⟨g,0,none⟩) l.length cp) l.length (Xz l)):=Za (KE O1.o (fun k hk=>by
  simp only [Y7,QC] at hk;subst hk;exact b2.block _ g1))
 clear b2 T1 O1 HR;go_wp2_with fail;have k1: ¬(i:Int)< 0:=Ze;have k2: ¬(n:Int)<=(i:Int):=Ze;have k3:(i:Int)< (n:Int):=Ze;have m1: ¬(j:Int)< 0:=Ze;have m2: ¬(n:Int)<=(j:Int):=Ze;have m3:(j:Int)< (n:Int):=Ze;have R2:Zl (w2.drew.rangeAt g (i*7) s.row/\w2.drew.rangeAt g (j*7) d.row/\Zu w2.drew (w.heap.size+1) 30 (Zi c)):=Za (by
  have hL:=EK (S:=fun _=>False) O2.o (fun _ _ h=>h);obtain ⟨b,o,e1,r1⟩:=hL.at HIJ.o.1;obtain ⟨b',o',e2,r2⟩:=hL.at HIJ.o.2.1;injection e1 with e1;injection e1 with e1 e3 _;injection e2 with e2;injection e2 with e2 e4 _;subst e1 e2 e3 e4;rw [Nat.zero_add] at r1 r2;exact ⟨r1,r2,T2.o.2.1⟩)
 have G2:Zl (g < w2.drew.heap.size):=Za (O2.o.lt g rfl).2;refine Ra (fun w'=>Zu w' (w.heap.size+1) 30 (Zi c)) 11 [0,1,2,3,4,5,6,8,9,10,12] R2.o.2.2 ?_;refine JL ?_;show wpQuiet _ _ _ _ [_,_,_,_,_,_,_,_,_,_,_] _;iterate 10 (go_big_quiet_step ((intros; rfl)))
 refine QP 30 _ (w.heap.size+1) 30 (Zi c) _ rfl rfl rfl (fun w' h=>h) underlying30 rfl X7 ?_;refine X5 ?_;refine XK ?_;refine Vh (i:=7) (k:=11) ZC (of_decide_eq_true ZC) (of_decide_eq_true ZC) ?_ ?_
 ·refine Yz rfl rfl (wp_load_mid 68 _ rfl g (i*7) rfl s.row _ R2.o.1 underlying68 rfl Yb ?_);refine ⟨R2.o.2.2,?_⟩;refine Da ?_;refine Db (i:=11) ZC (of_decide_eq_true ZC) ?_;refine Yz rfl rfl (wp_load_mid 68 _ rfl g (j*7) rfl d.row _ R2.o.2.1 underlying68 rfl Yb ?_);exact zT6
 ·refine Yz rfl rfl (wp_load_mid 68 _ rfl g (j*7) rfl d.row _ R2.o.2.1 underlying68 rfl Yb ?_);refine ⟨R2.o.2.2,?_⟩;refine Da ?_;refine Db (i:=7) ZC (of_decide_eq_true ZC) ?_;refine Yz rfl rfl (wp_load_mid 68 _ rfl g (i*7) rfl s.row _ R2.o.1 underlying68 rfl Yb ?_);exact zT6
theorem cV (a:Option Addr)(l:List ZN)(cp:Nat)(p:Int × Int)(c:Nat->Int)(w:Zc)(hO:w.ownsRow 0 68 7 (.slice a l.length cp) l.length (Xz l))(hf: ∀v ∈ l,Yh v) :
  Calls Zb 273 #[.agg (Yx p),.slice a l.length cp,.agg (Zi c)] w fun e w'=>e= .returned (.bool (decide (DK l p (c 6)=0)))/\
   w'.ownsRow 0 68 7 (.slice a l.length cp) l.length (Xz (UE l p (c 6)))/\Zx (fun k=>(Yj a l.length cp).ownBlock=some k) w w':=by
 by_cases h:DK l p (c 6)=0
 ·rw [decide_eq_true h,show UE l p (c 6)=Te l p.1.toNat p.2.toNat from if_pos h];obtain ⟨i,j,s,d,rfl,Ka,hi,hj,hk⟩:=ik h;have Fo:=(Zj.1 hi).1;simp only [Te,Int.toNat_natCast,K8 hi,K8 hj];obtain ⟨g,rfl⟩ : ∃g,a=some ⟨g,0,none⟩:=by
   rcases hO.2 with ⟨_,h0⟩ | ⟨g,GP,cur,h1,_⟩
   ·omega
   ·injection h1 with h1 _ _;exact ⟨g,h1⟩
  exact (gT g l cp i j s d c w hO hf hi hj Ka hk).mono fun e w' ⟨he,ho,k⟩=>⟨he,ho,k.more (fun i _ e=>by subst e; rfl)⟩
 ·rw [decide_eq_false h,show UE l p (c 6)=l from if_neg h];exact (gS (fun _=>False) a l cp p c w (EK hO (fun _ _ h=>h)) hf h).mono fun e w' ⟨he,hb⟩=>⟨he,KE hO (fun k hk=>hb.block k (hO.lt k hk).2),Zx.of_below hb⟩
end
section
open Go Go.RowKit Go.Deep
def UM (L:List Bool) :Array Zk:=(L.map Value.bool).toArray
theorem gp (n:Nat) :madeCells #[.bool false] n=UM (ZP n false):=by
 apply Array.ext
 ·simp [madeCells,UM]
 ·intro i h1 h2;simp [madeCells,Nat.mod_one,UM]
theorem lI: ∃i,Tryz.prog.info? 4=some i/\i.zero=some (.bool false)/\i.size=1/\i.bytes=1:=by
 have h:(Tryz.prog.info? 4).map (fun i=>(i.zero,i.size,i.bytes))=some (some (.bool false),1,1):=ZC
 cases hi:Tryz.prog.info? 4 with
 | none=>exact Re
 | some i=>
  exact Wn
theorem Lz (n:Nat)(hn:n<=100000)(w:Zc) :
  (Instr.makeSlice 127 (.int .i64 (n:Int)) (.int .i64 (n:Int))).run Zb w= .ok (.slice (some ⟨w.heap.size,0,none⟩) n n) (w.alloc (.cells (UM (ZP n false)) 4)):=by
 obtain ⟨i,hi,hz,hs,MG⟩:=lI;have Eu:=Jc (P:=Zb) 127 4 i _ underlying127 hi hz .i64 .i64 n n (Zh _) Wl Ze w;rw [hs,Nat.mul_one] at Eu;have vh:(Value.bool false).cells= #[.bool false]:=rfl;rw [vh,gp] at Eu;exact Eu
theorem lL {L:List Bool}{i:Nat}(hi:i < L.length) :(UM L)[i]?=some (.bool (L.getD i false)):=by
 rw [UM,List.getElem?_toArray,List.getElem?_map,List.getD_eq_getElem?_getD,Zg hi];rfl
theorem eI (L:List Bool)(i:Nat)(b:Bool) :(UM L).setIfInBounds i (.bool b)=UM (L.set i b):=by
 simp [UM,List.map_set]
def Rf (w:Zc)(g:Nat)(L:List Bool) :Prop:=Zu w g 4 (UM L)
theorem Rf.cell {w:Zc}{g:Nat}{L:List Bool}(h:Rf w g L){i:Nat}(hi:i < L.length) :w.cell? ⟨g,i,none⟩=some (.bool (L.getD i false)):=(Zu.cell h i).trans (lL hi)
theorem Rf.frozen {w:Zc}{g:Nat}{L:List Bool}(h:Rf w g L)(i:Nat) :w.frozen? ⟨g,i,none⟩=false:=Zu.frozen h i
theorem Rf.set {w:Zc}{g:Nat}{L:List Bool}(h:Rf w g L)(i:Nat)(b:Bool) :Rf (w.setCell ⟨g,i,none⟩ (.bool b)) g (L.set i b):=by
 have:=Zu.set_ h i (.bool b);rw [eI] at this;exact this
theorem Rf.below {w w':Zc}{g:Nat}{L:List Bool}(h:Rf w g L)(hb:Zp w.heap.size w w') :Rf w' g L:=Zu.below h hb (Zu.lt h)
end
section
open Go Go.RowKit Go.Deep
def GS (c:Nat->Int)(q:List (Int × Int)) :Nat:=min (c 17).toNat q.length
def DY (mb:Int)(l:List ZN)(q:List (Int × Int))(k m:Nat) :List Bool:=FX mb l (q.take k)++ZP (m - k) false
theorem nP (mb:Int)(l:List ZN)(q:List (Int × Int))(m:Nat) :DY mb l q 0 m=ZP m false:=by simp [DY,FX]
theorem sU (mb:Int)(l:List ZN)(q:List (Int × Int)){k m:Nat}(hk:k<=m)(hm:m<=q.length) :(DY mb l q k m).length=m:=by
 simp only [DY,List.length_append,AV,Xr,List.length_replicate];omega
theorem nN (mb:Int)(l:List ZN)(q:List (Int × Int)){k m:Nat}{p:Int × Int}(hp:q[k]?=some p)(hk:k < m)(hm:m<=q.length) :
  (DY mb l q k m).set k (decide (DK (JW mb l (q.take k)) p mb=0))=DY mb l q (k+1) m:=by
 have hl:(FX mb l (q.take k)).length=k:=by rw [AV,Xr]; omega
 unfold DY;rw [List.set_append,hl,if_neg Ze,Nat.sub_self,TW hp,iH,show m - k=(m -(k+1))+1 by omega,List.replicate_succ,List.set_cons_zero];simp
theorem sS (mb:Int)(l:List ZN)(q:List (Int × Int))(m:Nat) :DY mb l q m m=FX mb l (q.take m):=by simp [DY]
theorem j6 {w:Zc}{B n:Nat}{e:TypeId}{sz:Nat}{v:Zk}{xs:List Zk}(h:w.ownsRow 0 e sz v n xs)(hB: ∀k,v.ownBlock=some k->B<=k) :w.ownsRow B e sz v n xs:=ZaP
def R6 (w wr:Zc)(v:Zk)(n g:Nat)(L:List ZN)(B:List Bool)(c:Nat->Int) :Prop:=
 wr.ownsRow (w.heap.size+1) 68 7 v n (Xz L)/\Rf wr g B/\v.ownBlock≠some g/\w.heap.size < g/\Zu wr w.heap.size 30 (Zi c)/\Zp w.heap.size w wr
theorem dz (a b:Option Addr)(cp cq:Nat)(l:List ZN)(q:List (Int × Int))(c:Nat->Int)(w:Zc)(hL:DH w (fun _=>False) a l)(hq:eo w (fun _=>False) b q)(hf: ∀v ∈ l,Yh v)(h17:0<=c 17)(hl:l.length<=4096)(hql:q.length<=4096) :
  Calls Zb 242 #[.slice a l.length cp,.slice b q.length cq,.agg (Zi c)] w fun e w'=> ∃v g,e= .returned (.tuple #[v,.slice (some ⟨g,0,none⟩) (GS c q) (GS c q)])/\
   w'.ownsRow w.heap.size 68 7 v l.length (Xz (JW (c 6) l (q.take (GS c q))))/\Rf w' g (FX (c 6) l (q.take (GS c q)))/\v.ownBlock≠some g/\w.heap.size<=g/\Zp w.heap.size w w':=by
 obtain ⟨m,hm⟩:=ZT (GS c q);have hmq:m<=q.length:=by rw [<-hm]; exact Nat.min_le_right _ _
 have mD:min (c 17) (q.length:Int)=(m:Int):=by rw [<-hm]; unfold GS; omega
 have ee:max (0:Int) (m:Int)=(m:Int):=Ze;rw [hm];have hm60:m<=4096:=Ze;have Eu:=fun w=>Lz m Ze w
 have hB:Zu (w.alloc (.cells (Zi c) 30)) w.heap.size 30 (Zi c):=Zt _ _ _;have b0:Zp w.heap.size w (w.alloc (.cells (Zi c) 30)):=(Zo _ _).alloc (Zh _) _;have HB:=Za (Zn hB b0);have HC:=Za (OL (fun _=>False) a cp l (w.alloc (.cells (Zi c) 30)) (hL.below b0) Ze);have HQ:=Za hq;have HF:=Za (fun k=>TQ (c 6) (q.take k) l hf);have HS:Zl ((w.alloc (.cells (Zi c) 30)).heap.size=w.heap.size+1):=Za ZE;obtain ⟨n,hn⟩:=ZT (l.length);obtain ⟨nq,xm⟩:=ZT (q.length);rw [hn] at HC ⊢;rw [xm] at mD hmq ⊢;have HN:=Za (Zn hn xm);clear hB b0 hL hq hf hm hn xm;go_enter func242,ntmps242;go_upto_region 1 with (fail);generalize w.alloc (.cells (Zi c) 30)=W at*;go_wp2_with fail;refine HC.o.mono ?_;rintro e w1 ⟨v,rfl,ho,b1⟩;have x17:w1.cell? ⟨w.heap.size,17,none⟩=some (.int .i64 (c 17)):=(HB.o.1.below b1 HB.o.1.lt).cell 17;have H1:Zl (w1.ownsRow (w.heap.size+1) 68 7 v n (Xz l)/\Zu w1 w.heap.size 30 (Zi c)/\Zp w.heap.size w w1):=Za ⟨HS.o▸ho,HB.o.1.below b1 HB.o.1.lt,HB.o.2.trans (b1.mono HB.o.2.size)⟩;clear ho b1 HB HC HS;go_upto_region 3 with (fail);have A0:Zl (R6 w (w1.alloc (.cells (UM (ZP m false)) 4)) v n w1.heap.size (JW (c 6) l (q.take 0)) (DY (c 6) l q 0 m) c):=by
  rw [nP];refine Za ⟨World.ownsRow.alloc H1.o.1 _,Zt _ _ _,fun e=>?_,?_,H1.o.2.1.alloc _,H1.o.2.2.alloc H1.o.2.2.size _⟩
  ·have:=(H1.o.1.lt _ e).2;omega
  ·have:=H1.o.2.1.lt;exact this
 have HV:Zl (∃a' GP,v= .slice a' n GP/\ ∀k,v.ownBlock=some k->w.heap.size < k):=Za (by
  obtain ⟨a',GP,e,-,-⟩:=Um (Ba H1.o.1 (Qu _));exact ⟨a',GP,e,fun k hk=>by have:=(H1.o.1.lt k hk).1; omega⟩)
 clear H1 x17 Eu mD ee;obtain ⟨a',GP,hv,hvk⟩:=HV.o;have HVK:=Za hvk;clear HV hvk;subst hv;generalize w1.alloc (.cells (UM (ZP m false)) 4)=W2 at*;generalize w1.heap.size=g at*;go_wp2;go_loopw [22] (fun s22 wr=> ∃k:Nat,k<=m/\s22= .int .i64 k/\Zl (R6 w wr (.slice a' n GP) n g (JW (c 6) l (q.take k)) (DY (c 6) l q k m) c)) (fun s22 _=>m -(intOf s22).toNat)
 case atStart=>exact ⟨0,by omega,rfl,A0⟩
 case round=>
  obtain ⟨k,hk,rfl,HA⟩:=hrel;clear A0
  by_cases XV:k < m
  ·obtain ⟨p,hp⟩ : ∃p,q[k]?=some p:=⟨_,Zg (by have:=HN.o; omega)⟩;obtain ⟨qb,qo,rfl,hrp⟩:=(HQ.o.below HA.o.2.2.2.2.2).at hp;have hqb:qb < w.heap.size:=by
    obtain ⟨b,off,h1,h2,h3,h4⟩:=HQ.o (by have:=HN.o; omega);injection h1 with h1;injection h1 with h1;omega
   have HP:=Za hp;have HR:=Za (Zn hrp (Zn hqb hmq));have k1: ¬(k:Int)< 0:=Ze;have k2: ¬(nq:Int)<=(k:Int):=Ze;have k3:(k:Int)< (nq:Int):=Ze;have j2: ¬(m:Int)<=(k:Int):=Ze;have j3:(k:Int)< (m:Int):=Ze;clear hp hrp hqb;go_upto_region 6 with (fail);refine Mz (fun w'=>w'.rangeAt qb (qo+k*2) (JX p)/\Zu w' w.heap.size 30 (Zi c)) 9 1 [0,1,2,3,4,5,6,7] ⟨HR.o.1,HA.o.2.2.2.2.1⟩ ?_;refine JL ?_;show wpQuiet _ _ _ _ [_,_,_,_,_,_,_,_] _;refine Pv ?_;refine cX 116 _ qb (qo+k*2) p _ rfl rfl rfl (fun w' h=>h.1) underlying116 rfl Le ?_;refine X5 ?_;refine Gz ?_;refine QP 30 _ w.heap.size 30 (Zi c) _ rfl rfl rfl (fun w' h=>h.2) underlying30 rfl X7 ?_;refine X5 ?_;refine XK ?_;refine Jg (i:=8) ?_;have HL:Zl ((JW (c 6) l (q.take k)).length=n):=Za (by rw [Pd]; exact HN.o.1);have HPF:=Za (HL.o▸cV a' (JW (c 6) l (q.take k)) GP p c wr.drew (by rw [HL.o]; exact Ba HA.o.1 (Qu _)) (HF.o k) :Calls Zb 273 #[.agg (Yx p),.slice a' n GP,.agg (Zi c)] wr.drew fun e w'=>e= .returned (.bool (decide (DK (JW (c 6) l (q.take k)) p (c 6)=0)))/\
    w'.ownsRow 0 68 7 (.slice a' n GP) n (Xz (UE (JW (c 6) l (q.take k)) p (c 6)))/\Zx (fun i=>(Yj a' n GP).ownBlock=some i) wr.drew w')
   refine JC #[.agg (Yx p),.slice a' n GP,.agg (Zi c)] call273 (HPF.o.mono ?_);rintro e w2 ⟨rfl,ho,kp⟩;have A2:Zl (R6 w w2 (.slice a' n GP) n g (JW (c 6) l (q.take (k+1))) (DY (c 6) l q k m) c):=by
    obtain ⟨h1,h2,h3,h4,h5,h6⟩:=HA.o;have kp':Zx (fun i=>(Yj a' n GP).ownBlock=some i) wr w2:=(Zx.refl _ wr).drew.trans kp (fun _ _ h=>h);rw [TW HP.o,iI];refine Za ⟨j6 ho (fun i hi=>HVK.o i hi),Zu.kept h2 kp' (fun e=>h3 e),h3,h4,h5.kept kp' (fun e=>?_),Zx.below h6.drew kp (fun i hi=>Nat.le_of_lt (HVK.o i hi)) h6.size⟩;have:=HVK.o _ e;omega
   have R2:Zl (w2.rangeAt qb (qo+k*2) (JX p)):=Za (QM HR.o.1 (kp.block qb (YE HR.o.2.1 HA.o.2.2.2.2.2.size) (fun e=>by
    have:=HVK.o _ e;have:=HR.o.2.1;omega)))
   clear ho kp HPF HL HA;have LB:=sU (c 6) l q (k:=k) (m:=m) Ze (by rw [HN.o.2]; exact hmq);have z1:w2.cell? ⟨g,k,none⟩=some (.bool ((DY (c 6) l q k m).getD k false)):=A2.o.2.1.cell Ze;have z2:w2.frozen? ⟨g,k,none⟩=false:=A2.o.2.1.frozen k;have SN:=Za (nN (c 6) l q (k:=k) (m:=m) HP.o XV (by rw [HN.o.2]; exact hmq));clear LB;generalize decide (DK (JW (c 6) l (q.take k)) p (c 6)=0)=r at*;refine ⟨_,rfl,⟨R2.o,A2.o.2.2.2.2.1⟩,?_⟩;refine GO ?_;refine ⟨by kernel_rfl,?_⟩;refine Mh ?_;go_wp2;refine Gy ?_;have A3:Zl (R6 w (w2.setCell ⟨g,k,none⟩ (.bool r)) (.slice a' n GP) n g (JW (c 6) l (q.take (k+1))) (DY (c 6) l q (k+1) m) c):=by
    obtain ⟨h1,h2,h3,h4,h5,h6⟩:=A2.o;rw [<-SN.o];refine Za ⟨j6 (KE (Ba h1 (Qu _)) (fun i hi=>Below.heap_setCell w2 _ _ i (fun e=>h3 (by rw [hi]; exact congrArg some e)))) (fun i hi=>HVK.o i hi),h2.set k r,h3,h4,h5.far FK _,h6.setCell FK _⟩
   clear A2 z1 z2 R2;generalize w2.setCell ⟨g,k,none⟩ (.bool r)=w3 at*;go_wp2;go_roundw
   case rel=>exact ⟨k+1,by omega,by go_num,A3⟩
   case measure=>exact VL
  ·obtain rfl:k=m:=Ze;have HZ:Zl (R6 w wr (.slice a' n GP) n g (JW (c 6) l (q.take k)) (FX (c 6) l (q.take k)) c):=by
    have:=HA.o;rw [sS] at this;exact Za this
   clear HA XV;have XV: ¬k < k:=Ze;go_wp2;go_ret2;obtain ⟨h1,h2,h3,h4,h5,h6⟩:=HZ.o;exact ⟨_,_,rfl,Ba h1 Ze,h2,h3,by omega,h6⟩
end
section
open Go Go.RowKit
structure ah (c:Nat->Int) :Prop where
 ub0:0<=c 10
 ub1:c 10<=1048576
 sd0:0<=c 11
 sd1:c 11<=1048576
 num0:0<=c 18
 num1:c 18<=c 19
 den0:1<=c 19
 den1:c 19<=4294967296
theorem CL {c:Nat->Int}(hf:Ci c)(h:Ws c=0) :ah c:=by
 rcases LX c with ⟨_,hb⟩ | ⟨k,_,_,_,e⟩
 ·have PK:=J5 (hb 10 Ze);have UT:decide (c 10 < c 11/\c 11<=1048576)=true:=hb 11 Ze;have h18:decide (c 18<=c 19)=true:=hb 18 Ze;have h19:=J5 (hb 19 Ze);have f18:(Lit.int .u64 (c 18)).wf=true:=hf 18 Ze;simp at UT h18;exact ⟨by omega,PK.2,by omega,UT.2,(bounds_u64 f18).1,h18,h19.1,h19.2⟩
 ·omega
def BE (v:ZN)(c:Nat->Int) :Int:=(amQ v.bal.toNat (c 18).toNat (c 19).toNat:Nat)
def se (v:ZN)(c:Nat->Int) :Bool:=vQ v.bal.toNat (c 18).toNat (c 19).toNat
theorem L8 {v:ZN}(c:Nat->Int)(hv:Yh v) :0<=BE v c/\BE v c<=v.bal:=by
 have:=Zcb v.bal.toNat (c 18).toNat (c 19).toNat;have h:=hv.bal;unfold BE;omega
theorem AL {v:ZN}{c:Nat->Int}(hv:Yh v)(hc:ah c)(w:Zc) :
  Z3 178 #[.int .u64 v.bal,.int .u64 (c 18),.int .u64 (c 19)] w (.tuple #[.int .u64 (BE v c),.bool (se v c)]):=by
 have h:=eD v.bal.toNat (c 18).toNat (c 19).toNat w (by have:=hv.bal; omega) (by have:=hc.num1; have:=hc.den1; omega) (by have:=hc.den1; omega);rw [Int.toNat_of_nonneg hv.bal.1,Int.toNat_of_nonneg hc.num0,Int.toNat_of_nonneg (show 0<=c 19 by have:=hc.den0; omega)] at h;exact h
def DZ (v:ZN)(e:Int)(c:Nat->Int) :Int × ZN:=Qh (Kq v e (c 11)) { v with bal:=v.bal - BE v c}
def vj (v:ZN)(e:Int)(c:Nat->Int) :Int:=if(DZ v e c).1=0 then BE v c else 0
theorem nW {v:ZN}(e:Int){c:Nat->Int}(w:Zc)(hv:Yh v)(hc:ah c) :
  Z3 128 #[.agg (Zd v),.int .i64 e,.agg (Zi c)] w (Sc (DZ v e c) (vj v e c)):=by
 obtain ⟨p0,p1⟩:=L8 c hv
 by_cases h:v.st=2
 ·have:=IC v e (BE v c) (se v c) c w hv.2 hc.sd0 hc.sd1 p0 p1 hv.bal.2 KB (AL hv hc);rwa [show ([VI,Qj 7,QO e (c 11),Xo e] :List Ng)=Kq v e (c 11) from (if_pos h).symm] at this
 ·have:=dr v e (BE v c) (se v c) c w hv.2 hc.sd0 hc.sd1 p0 p1 hv.bal.2 KB (AL hv hc);rwa [show ([VI,Qj 7,QO e (c 11)] :List Ng)=Kq v e (c 11) from (if_neg h).symm] at this
theorem df: ∀(es:List Ng) (x:ZN),(∀e ∈ es,∀x,(e x).2.bal=x.bal)->(Qh es x).1=0->(Qh es x).2.bal=x.bal
 | [],x,_,_=>rfl
 | e::es,x,h,h0=>by
  unfold Qh at h0 ⊢
  split at h0
  ·rename_i hc
   rw [if_pos hc,df es _ (fun e he=>h e (by simp [he])) h0];exact h e ZE x
  ·rename_i hc
   exact absurd h0 hc
theorem AT {v:ZN}(e:Int)(c:Nat->Int)(h:(DZ v e c).1=0) :(DZ v e c).2.bal+vj v e c=v.bal:=by
 have k:=df (Kq v e (c 11)) { v with bal:=v.bal - BE v c} (fun f hf x=>by
  have hm: ∀x,(VI x).2.bal=x.bal:=fun x=>by unfold VI; split <;> rfl
  have hp: ∀x,(Qj 7 x).2.bal=x.bal:=fun x=>by unfold Qj; split <;> rfl
  have hh: ∀x,(QO e (c 11) x).2.bal=x.bal:=fun x=>by unfold QO; split <;> rfl
  have hr: ∀x,(Xo e x).2.bal=x.bal:=fun x=>by unfold Xo; split <;> rfl
  unfold Kq at hf
  split at hf
  ·simp only [ZU,Yg,or_false] at hf
   rcases hf with rfl | rfl | rfl | rfl
   ·exact hm x
   ·exact hp x
   ·exact hh x
   ·exact hr x
  ·simp only [ZU,Yg,or_false] at hf
   rcases hf with rfl | rfl | rfl
   ·exact hm x
   ·exact hp x
   ·exact hh x) h
 unfold vj DZ at*;rw [if_pos h,k];simp only;omega
theorem TO {v:ZN}{e:Int}{c:Nat->Int}(hv:Yh v)(h:(DZ v e c).1=0) :Yh (DZ v e c).2:=by
 have hb:=AT e c h;obtain ⟨p0,p1⟩:=L8 c hv;have hbv:=hv.bal;have hn:vj v e c=BE v c:=by unfold vj; rw [if_pos h]
 have hwf: ∀x:Int,0<=x->x<=18446744073709551615->(Lit.int .u64 x).wf=true:=fun x h0 h1=>by
  exact dO
 refine ⟨hwf _ Ze Ze,?_⟩;unfold DZ at*;rw [show Kq v e (c 11)=Kq { v with bal:=v.bal - BE v c} e (c 11) from rfl] at h ⊢
 by_cases h1:v.sl=true
 ·exact kT
 ·have h1:v.sl=false:=QQ
  by_cases h2:Jk v.st 7=0
  ·exact kS
  ·by_cases h3:Nc e (c 11)
   ·rw [kt (v:= { v with bal:=v.bal - BE v c}) h1 h2 h3];exact Iq v.st 7
   ·exact kQ
end
end Go.Proofs.YtobgbcdgffgdhaaGreat
