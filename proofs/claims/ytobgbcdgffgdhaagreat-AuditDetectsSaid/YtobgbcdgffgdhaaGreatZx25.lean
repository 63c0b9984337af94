/- Part 25 of 34: L16Apply L16Req L16Perf L16Bool L16Step Sl. -/
import Derived.Test.YtobgbcdgffgdhaaGreatZx00
import Derived.Test.YtobgbcdgffgdhaaGreatZx14
import Derived.Test.YtobgbcdgffgdhaaGreatZx23
namespace Go.Proofs.YtobgbcdgffgdhaaGreat
set_option linter.unusedVariables false
set_option linter.unusedSimpArgs false
set_option maxRecDepth 100000
set_option maxHeartbeats 8000000
open _root_.And renaming intro -> Zm
open _root_.Go.RowKit renaming Below -> Zp
open _root_.Go.RowKit.Below renaming refl -> Zn
open _root_.Go.Proofs.YtobgbcdgffgdhaaGreat.Zu renaming alloc -> YK, new -> Zs
open _root_.Int renaming toNat_of_nonneg -> VE
open _root_.List renaming getElem?_eq_getElem -> Zg, getElem?_eq_some_iff -> Zk, length_take -> Xl, mem_cons -> ZX, mem_of_getElem? -> Zz, not_mem_nil -> Yk, replicate -> ZD
open _root_.Nat renaming le_refl -> Zh, lt_of_lt_of_le -> YC, zero_le -> XY
open _root_.Option.some renaming injEq -> QW
open _root_.Go.Result renaming andThen -> Xd
open _root_.Go.Proofs.Tryz renaming prog -> Zb
open _root_.Go renaming Value -> Zl, World -> Zc, below_setRow -> Xw, setRow_heap -> YH, setRow_other -> Ud, undef -> KJ, wpList_build -> JQ
open _root_.Go.Value renaming ownBlock -> YZ, slice -> Ys
open _root_.Go.Proofs.YtobgbcdgffgdhaaGreat.World.rangeAt renaming same -> Q9
open Go.Proofs.Tryz
theorem ZdL {G H:Prop} (k:H) (h:Dq H->G:=by
  intro zk;refine Jb 240 _ (w.heap.size+1) 240 (YJ (p1,p2)) _ rfl rfl rfl (fun w' h=>T1.o.2.1.below h T1.o.2.1.lt) underlying240 rfl PA ?_;exact zk.o) :G:=h ⟨k⟩
theorem Sk {G H:Prop} (k:H) (h:Dq H->G:=by
  intro zk;iterate 5 (go_big_quiet_step ((intros; rfl)))
  exact zk.o) :G:=h ⟨k⟩
theorem ZlY {G H:Prop} (k:H) (h:Dq H->G:=by
  intro zk;refine RR (.agg (YJ (p2,p1))) #[.agg (YJ (p1,p2))] ZC ZC call187 (fun w' h=>(cQ (p1,p2) w').mono fun e w'' ⟨he,hb⟩=>⟨he,h.trans (hb.mono h.size)⟩) ?_;exact zk.o) :G:=h ⟨k⟩
theorem zT7 {G:Prop} (h:G:=by
  refine ⟨R2.o.2.2,?_⟩;refine Ee ?_;refine Eh (i:=13) ZC (of_decide_eq_true ZC) ?_;refine JA #[.agg (Ze s),.agg (Ze d),.agg (Zi c)] call290 ((HA.o w2.drew).mono ?_);rintro e w3 ⟨rfl,b3⟩;have D3:Zj (Zu w3 (w.heap.size+1) 30 (Zi c)):=Za (R2.o.2.2.below b3 R2.o.2.2.lt);have F3:Zj (w3.there g (i*7) 7/\(w3.setCells g (i*7) (Ze (Fg s)).toList).there g (j*7) 7/\((w3.setCells g (i*7) (Ze (Fg s)).toList).setCells g (j*7) (Ze (PF s d)).toList).ownsRow 0 68 7 (.slice (some ⟨g,0,none⟩) l.length cp) l.length (XC ((l.set i (Fg s)).set j (PF s d)))):=Za (rM (Va O2.o (fun k hk=>by simp only [Value.ownBlock,Option.some.injEq] at hk; subst hk; exact b3.block _ G2.o)) HIJ.o.1 HIJ.o.2.1 HIJ.o.2.2 _ _);have K3:Zj (ZA (fun k=>k=g) w w3):=Za (ZA.of_below (T2.o.2.2.drew.trans (b3.mono T2.o.2.2.size)));have N3:Zj (g≠w.heap.size+1):=Za Zd;clear b3;refine ⟨_,rfl,D3.o,?_⟩;refine Ee ?_;refine Hx (f:=3) (fun w'=>Zu w' (w.heap.size+1) 30 (Zi c)) [14,15,16,17,18] (fun _ h=>h) ZC D3.o ?_;refine JH ?_;refine OJ ?_;refine Sk ?_;refine Yo ?_;refine Eh (i:=19) ZC (of_decide_eq_true ZC) ?_;refine Yv rfl rfl (wp_store_mid _ _ _ rfl g (i*7) (Ze (Fg s)) rfl rfl F3.o.1 Ya (Yi _) ?_);have D4:Zj (Zu (w3.setCells g (i*7) (Ze (Fg s)).toList) (w.heap.size+1) 30 (Zi c)):=Za (D3.o.kept (ZA.setCells _ _ _ (ZA.refl (fun k=>k=g) w3) (.inl rfl)) (fun e=>N3.o e.symm));have F4:Zj ((w3.setCells g (i*7) (Ze (Fg s)).toList).there g (j*7) 7/\((w3.setCells g (i*7) (Ze (Fg s)).toList).setCells g (j*7) (Ze (PF s d)).toList).ownsRow 0 68 7 (.slice (some ⟨g,0,none⟩) n cp) n (XC ((l.set i (Fg s)).set j (PF s d)))/\ZA (fun k=>k=g) w (w3.setCells g (i*7) (Ze (Fg s)).toList)):=Za (by rw [<-HN.o]; exact ⟨F3.o.2.1,F3.o.2.2,ZA.setCells _ _ _ K3.o (.inl rfl)⟩);clear F3 K3 D3;generalize w3.setCells g (i*7) (Ze (Fg s)).toList=w4 at*;refine ⟨D4.o,?_⟩;refine Ee ?_;refine Hx (f:=1) (fun w'=>Zu w' (w.heap.size+1) 30 (Zi c)) [20] (fun _ h=>h) ZC D4.o ?_;refine JH ?_;refine Hh ?_;refine U4 ?_;refine Yo ?_;refine Eh (i:=21) ZC (of_decide_eq_true ZC) ?_;refine Yv rfl rfl (wp_store_mid _ _ _ rfl g (j*7) (Ze (PF s d)) rfl rfl F4.o.1 Ya (Yi _) ?_);refine ⟨D4.o.kept (ZA.setCells _ _ _ (ZA.refl (fun k=>k=g) _) (.inl rfl)) (fun e=>N3.o e.symm),?_⟩;refine Ee ?_;refine ⟨by kernel_rfl,?_⟩;refine U1 ?_;have Z:Zj ((w4.setCells g (j*7) (Ze (PF s d)).toList).ownsRow 0 68 7 (.slice (some ⟨g,0,none⟩) n cp) n (XC ((l.set i (Fg s)).set j (PF s d)))/\ZA (fun k=>k=g) w (w4.setCells g (j*7) (Ze (PF s d)).toList)):=Za ⟨F4.o.2.1,ZA.setCells _ _ _ F4.o.2.2 (.inl rfl)⟩;generalize w4.setCells g (j*7) (Ze (PF s d)).toList=w5 at*;go_wp2_with fail;go_ret;exact ⟨rfl,Z.o⟩) :G:=h
theorem o7 {G:Prop} (h:G:=by
  rw [ZiC (v:= { v with bal:=v.bal - DQ v c}) h1 h2 h3] at h;simp at h) :G:=h
theorem o9 {G:Prop} (h:G:=by
  rw [ZiA (v:= { v with bal:=v.bal - DQ v c}) h1 h2] at h;simp at h) :G:=h
theorem pg {G:Prop} (h:G:=by
  rw [ZiD (v:= { v with bal:=v.bal - DQ v c}) h1] at h;simp at h) :G:=h
section
open Go Go.RowKit Go.Deep
theorem AT {P:Program}{fn:Func}{p q u:Tmp}{ty:TypeId}(h:fn.results= #[.cell p ty,.cell q ty,.tmp u])(tmps:Array Zl)(w:Zc)(g g2:Nat)(t:TypeId)(cs cs2:Array Zl)(fr fr2:Nat × Nat)(d:TypeDesc)
  (hp:tmps.getD p KJ= .pointer (some ⟨g,0,none⟩)) (hq:tmps.getD q KJ= .pointer (some ⟨g2,0,none⟩)) (hg:w.heap[g]?=some (.cells cs t fr)) (CQ:w.heap[g2]?=some (.cells cs2 t fr2))
  (hu:P.underlying ty=some d) (hd:(match d with | .struct _ | .array _ _=>true | _=>false)=true) (hi:(P.info? ty).map (·.size)=some cs.size) (Gi:(P.info? ty).map (·.size)=some cs2.size) :
  (results fn tmps).run P w= .ok (.tuple #[.agg cs,.agg cs2,tmps.getD u KJ]) w:=by
 have e:(results fn tmps).run P w=((asAddr (tmps.getD p KJ)).run P w).andThen fun a w₁=>((loadVar ty a).run P w₁).andThen fun v w₂=>((asAddr (tmps.getD q KJ)).run P w₂).andThen fun a2 w₃=>((loadVar ty a2).run P w₃).andThen fun v2 w₄=> .ok (.tuple #[v,v2,tmps.getD u KJ]) w₄:=by
  simp only [results,h];simp [Sem.run_bind,Xd]
 rw [e,hp,hq];simp [asAddr,run_loadVar_row w g t ty cs fr d hg hu hd hi,run_loadVar_row w g2 t ty cs2 fr2 d CQ hu hd Gi,Xd]
def Fiv (w W:Zc)(s d:ZN)(c:Nat->Int) :Prop:=
 pK w W s d c/\Zu W (w.heap.size+3) 68 (Ze ZU)/\Zu W (w.heap.size+4) 68 (Ze ZU)
section
variable {w W W':Zc} {s d:ZN} {c:Nat->Int}
theorem Fiv.new (w:Zc)(s d:ZN)(c:Nat->Int) :Fiv w (((((w.alloc (.cells (Ze s) 68)).alloc (.cells (Ze d) 68)).alloc (.cells (Zi c) 30)).alloc (.cells (Ze ZU) 68)).alloc (.cells (Ze ZU) 68)) s d c:=by
 have h:=pK.new w s d c;have hs:(((w.alloc (.cells (Ze s) 68)).alloc (.cells (Ze d) 68)).alloc (.cells (Zi c) 30)).heap.size=w.heap.size+3:=ZE;generalize ((w.alloc (.cells (Ze s) 68)).alloc (.cells (Ze d) 68)).alloc (.cells (Zi c) 30)=W at*;refine ⟨h.next (((Zn _ _).alloc (Zh _) _).alloc ZE _),?_,?_⟩
 ·have:=YK (Zs W 68 (Ze ZU)) (.cells (Ze ZU) 68);rwa [hs] at this
 ·have:=Fm W (.cells (Ze ZU) 68) (Ze ZU) 68;rwa [hs] at this
theorem Fiv.next (h:Fiv w W s d c)(hb:Zp W.heap.size W W') :Fiv w W' s d c:=⟨h.1.next hb,h.2.1.below hb h.2.1.lt,h.2.2.below hb h.2.2.lt⟩
end
theorem tT (s d:ZN)(c:Nat->Int)(w:Zc)(hs:Yp s)(hd:Yp d)(hn:FU s d (c 6)=0) :
  Z3 290 #[.agg (Ze s),.agg (Ze d),.agg (Zi c)] w (.tuple #[.agg (Ze (Fg s)),.agg (Ze (PF s d)),.int .i64 0]):=by
 have HT:=Za (Fiv.new w s d c);have HC:=Za (fun w=>Pe s d c w hs hd);rw [hn] at HC;have hk:=Rv hn;obtain ⟨t,ht⟩:=ZR (d.bal+s.bal);have hw:IntKind.u64.wrap (d.bal+s.bal)=t:=by
  have h1:=hs.bal;have h2:=hd.bal;rw [ht];have h3:0<=t:=Zd;have h4:t<=18446744073709551615:=Zd;simp [IntKind.wrap,IntKind.signed,IntKind.bits]; omega
 have E:Zj (Ze (PF s d)=(Ze d).setIfInBounds 0 (.int .u64 t)):=Za (by rw [<-ht]; rfl);have E2:Zj (Ze (Fg s)=((Ze s).setIfInBounds 0 (.int .u64 0)).setIfInBounds 1 (.int .i64 7)):=Za rfl;clear hs hd hn hk ht;go_enter func290,ntmps290;go_upto_region 1 with (fail);simp only [Bn];generalize ((((w.alloc (.cells (Ze s) 68)).alloc (.cells (Ze d) 68)).alloc (.cells (Zi c) 30)).alloc (.cells (Ze ZU) 68)).alloc (.cells (Ze ZU) 68)=W at*;go_wp2_with (first | (refine Kl 68 w.heap.size HT.o.1.1 underlying68 Ya ?_) | (refine Kl 68 (w.heap.size+1) HT.o.1.2.1 underlying68 Ya ?_) | (refine Kl 30 (w.heap.size+2) HT.o.1.2.2.1 underlying30 Qk ?_));refine (HC.o _).mono ?_;rintro e w1 ⟨rfl,b1⟩;have T1:=Za (HT.o.next b1);clear HT b1 HC;have f0:=T1.o.1.1.frozen 0;have f1:=T1.o.1.1.frozen 1;have g0:=T1.o.1.2.1.frozen 0;have x0:=Xx T1.o.1.1 0;have y0:=Xx T1.o.1.2.1 0;have x1:=Xx T1.o.1.1 1;go_upto_region 7 with (fail);have Z:Zj (Zu (((w1.setCell ⟨w.heap.size+1,0,none⟩ (.int .u64 t)).setCell ⟨w.heap.size,0,none⟩ (.int .u64 0)).setCell ⟨w.heap.size,1,none⟩ (.int .i64 7)) w.heap.size 68 (Ze (Fg s))/\Zu (((w1.setCell ⟨w.heap.size+1,0,none⟩ (.int .u64 t)).setCell ⟨w.heap.size,0,none⟩ (.int .u64 0)).setCell ⟨w.heap.size,1,none⟩ (.int .i64 7)) (w.heap.size+1) 68 (Ze (PF s d))/\
   Zu (((w1.setCell ⟨w.heap.size+1,0,none⟩ (.int .u64 t)).setCell ⟨w.heap.size,0,none⟩ (.int .u64 0)).setCell ⟨w.heap.size,1,none⟩ (.int .i64 7)) (w.heap.size+3) 68 (Ze ZU)/\Zu (((w1.setCell ⟨w.heap.size+1,0,none⟩ (.int .u64 t)).setCell ⟨w.heap.size,0,none⟩ (.int .u64 0)).setCell ⟨w.heap.size,1,none⟩ (.int .i64 7)) (w.heap.size+4) 68 (Ze ZU)/\
   Zp w.heap.size w (((w1.setCell ⟨w.heap.size+1,0,none⟩ (.int .u64 t)).setCell ⟨w.heap.size,0,none⟩ (.int .u64 0)).setCell ⟨w.heap.size,1,none⟩ (.int .i64 7))):=by
  obtain ⟨⟨h1,h2,-,h3⟩,h4,h5⟩:=T1.o;refine Za ⟨?_,?_,?_,?_,?_⟩
  ·rw [E2.o];exact ((h1.far ZE _).set_ 0 _).set_ 1 _
  ·rw [E.o];exact ((h2.set_ 0 _).far ZE _).far ZE _
  ·exact ((h4.far ZE _).far ZE _).far ZE _
  ·exact ((h5.far ZE _).far ZE _).far ZE _
  ·exact ((h3.setCell ZE _).setCell ZE _).setCell ZE _
 generalize ((w1.setCell ⟨w.heap.size+1,0,none⟩ (.int .u64 t)).setCell ⟨w.heap.size,0,none⟩ (.int .u64 0)).setCell ⟨w.heap.size,1,none⟩ (.int .i64 7)=w3 at*;clear T1 x0 x1 y0 f0 f1 g0 E E2 hw;have R3:Zj (Zu w3.drew (w.heap.size+3) 68 (Ze ZU)):=Za Z.o.2.2.1;have R4:Zj (Zu (w3.drew.setRow (w.heap.size+3) (Ze (Fg s))) (w.heap.size+4) 68 (Ze ZU)):=Za ((Ud _ _ _ _ Zd).trans Z.o.2.2.2.1);have S3:Zj (Zu (w3.drew.setRow (w.heap.size+3) (Ze (Fg s))) w.heap.size 68 (Ze (Fg s))/\Zu (w3.drew.setRow (w.heap.size+3) (Ze (Fg s))) (w.heap.size+1) 68 (Ze (PF s d))):=Za ⟨(Ud _ _ _ _ Zd).trans Z.o.1,(Ud _ _ _ _ Zd).trans Z.o.2.1⟩;have B3:Zj (Zp w.heap.size w w3.drew):=Za Z.o.2.2.2.2.drew;refine L5 (fun w'=>Zu w' w.heap.size 68 (Ze (Fg s))/\Zu w' (w.heap.size+1) 68 (Ze (PF s d))) 3 1 [0,1] ⟨Z.o.1,Z.o.2.1⟩ ?_;refine JH ?_;refine je ?_;refine Vv 68 _ w.heap.size 0 (Fg s) _ rfl rfl rfl (fun w' h=>h.1.range) underlying68 rfl Ya ?_;refine X7 ?_;refine Vv 68 _ (w.heap.size+1) 0 (PF s d) _ rfl rfl rfl (fun w' h=>h.2.range) underlying68 rfl Ya ?_;refine X7 ?_;refine Yo ?_;clear Z;generalize w3.drew=w4 at*;refine JC (i:=2) ?_;refine Yv rfl rfl (wp_store_row _ _ _ rfl (w.heap.size+3) (Ze (Fg s)) rfl rfl 68 _ R3.o Ya rfl (Yi _) ?_);refine ⟨S3.o,?_⟩;refine GD ?_;refine ⟨by kernel_rfl,?_⟩;refine LA ?_;go_wp2_with (first | (refine Up (w.heap.size+4) (Ze (PF s d)) 68 R4.o Ya (Yi _) ?_));refine U1 ?_;go_wp2_with fail;exact bodyPost_ret (v:= .tuple #[.agg (Ze (Fg s)),.agg (Ze (PF s d)),.int .i64 0]) (AT (fn:=Tryz.f290) rfl _ _ (w.heap.size+3) (w.heap.size+4) 68 _ _ (0,0) (0,0) _ rfl rfl ((Ud _ _ _ _ Zd).trans (YH _ _ _ _ _ _ R3.o)) (YH _ _ _ _ _ _ R4.o) underlying68 rfl Ya Ya) rfl ⟨rfl,Xw (Xw B3.o Zd _) Zd _⟩
end
section
open Go Go.RowKit Go.Deep
def inB (p:Int × Int)(n:Nat) :Bool:=decide (0<=p.1/\0<=p.2/\p.1 < n/\p.2 < n)
theorem OG (p:Int × Int)(n:Nat)(w:Zc) :
  Z3 186 #[.agg (YJ p),.int .i64 n] w (.bool (inB p n)):=by
 have hB:Zu (w.alloc (.cells (YJ p) 240)) w.heap.size 240 (YJ p):=Zs _ _ _;have x0:(w.alloc (.cells (YJ p) 240)).cell? ⟨w.heap.size,0,none⟩=some (.int .i64 p.1):=hB.cell 0;have x1:(w.alloc (.cells (YJ p) 240)).cell? ⟨w.heap.size,1,none⟩=some (.int .i64 p.2):=hB.cell 1;have B:=Za (show Zp w.heap.size w (w.alloc (.cells (YJ p) 240)) from (Zn _ _).alloc (Zh _) _);clear hB;obtain ⟨p1,p2⟩:=p;simp only at x0 x1;go_enter func186,ntmps186;go_upto_region 1 with (fail);generalize w.alloc (.cells (YJ (p1,p2)) 240)=W at*;go_wp2
 ·rename_i h
  go_ret;exact ⟨Uo (decide_eq_decide.2 (by show max p1 p2 < (n:Int) ↔ (0<=p1/\0<=p2/\p1 < n/\p2 < n); omega)),B.o⟩
 ·rename_i h
  go_ret;exact ⟨Uo (decide_eq_false (by show ¬(0<=p1/\0<=p2/\p1 < (n:Int)/\p2 < (n:Int)); omega)).symm,B.o⟩
theorem cQ (p:Int × Int)(w:Zc) :
  Z3 187 #[.agg (YJ p)] w (.agg (YJ (p.2,p.1))):=by
 have hB:Zu ((w.alloc (.cells (YJ p) 240)).alloc (.cells (YJ (0,0)) 240)) w.heap.size 240 (YJ p):=YK (Zs _ _ _) _;have x0:((w.alloc (.cells (YJ p) 240)).alloc (.cells (YJ (0,0)) 240)).cell? ⟨w.heap.size,0,none⟩=some (.int .i64 p.1):=hB.cell 0;have x1:((w.alloc (.cells (YJ p) 240)).alloc (.cells (YJ (0,0)) 240)).cell? ⟨w.heap.size,1,none⟩=some (.int .i64 p.2):=hB.cell 1;have hz:(#[.int .i64 0,.int .i64 0] :Array Zl)=YJ (0,0):=rfl;have Z:=Za (Fm w (.cells (YJ p) 240) (YJ (0,0)) 240);have B:=Za (show Zp w.heap.size w ((w.alloc (.cells (YJ p) 240)).alloc (.cells (YJ (0,0)) 240)) from ((Zn _ _).alloc (Zh _) _).alloc ZE _);clear hB;go_enter func187,ntmps187;go_upto_region 1 with (fail);generalize (w.alloc (.cells (YJ p) 240)).alloc (.cells (YJ (0,0)) 240)=W at*;clear hz;go_wp2_with (first | (refine JQ rfl 240 _ rfl ZC ?_; rw [show (Tryz.prog.built 240 _).getD #[]=YJ (p.2,p.1) from by kernel_rfl]) | (refine Up (w.heap.size+1) (YJ (p.2,p.1)) 240 Z.o PA (UM _) ?_));exact bodyPost_ret (v:= .agg (YJ (p.2,p.1))) (results_cell_row (fn:=Tryz.f187) rfl _ _ (w.heap.size+1) 240 _ (0,0) _ rfl (YH _ _ _ _ _ _ Z.o) underlying240 rfl PA) rfl ⟨rfl,Xw B.o Zd _⟩
def ei (w W:Zc)(p:Int × Int)(c:Nat->Int) :Prop:=
 Zu W w.heap.size 30 (Zi c)/\Zu W (w.heap.size+1) 240 (YJ p)/\Zp w.heap.size w W
theorem ei.new (w:Zc)(p:Int × Int)(c:Nat->Int) :ei w ((w.alloc (.cells (Zi c) 30)).alloc (.cells (YJ p) 240)) p c:=
 ⟨YK (Zs w _ _) _,Fm w _ _ _,((Zn _ _).alloc (Zh _) _).alloc ZE _⟩
theorem ei.next {w W W':Zc}{p:Int × Int}{c:Nat->Int}(h:ei w W p c)(hb:Zp W.heap.size W W') :ei w W' p c:=
 ⟨h.1.below hb h.1.lt,h.2.1.below hb h.2.1.lt,h.2.2.trans (hb.mono h.2.2.size)⟩
theorem Zc1 (a:Option Addr)(n cp:Nat)(p1 p2:Int)(c:Nat->Int)(w:Zc)(h:inB (p1,p2) n=false) :
  Z3 132 #[.slice a n cp,.int .i64 p1,.int .i64 p2,.agg (Zi c)] w (.int .i64 7):=by
 have HW:=Za (OG (p1,p2) n);have T:=Za (ei.new w (p1,p2) c);rw [h] at HW;clear h;go_enter func132,ntmps132;go_upto_region 2 with (first | (refine JQ rfl 240 _ rfl ZC ?_; rw [show (Tryz.prog.built 240 _).getD #[]=YJ (p1,p2) from by kernel_rfl]) | (refine Up (w.heap.size+1) (YJ (p1,p2)) 240 (Fm w _ _ _) PA (UM _) ?_; rw [FE]));generalize (w.alloc (.cells (Zi c) 30)).alloc (.cells (YJ (p1,p2)) 240)=W at*;go_wp2_with (first | (refine Kl 240 (w.heap.size+1) T.o.2.1 underlying240 PA ?_));refine (HW.o _).mono ?_;rintro e w1 ⟨rfl,b1⟩;have T1:=Za (T.o.next b1);clear b1 T HW;go_wp2_with fail;go_ret;exact ⟨rfl,T1.o.2.2⟩
theorem xB (a:Option Addr)(n cp:Nat)(p1 p2:Int)(c:Nat->Int)(w:Zc)(h:inB (p1,p2) n=true)(he:p1=p2) :
  Z3 132 #[.slice a n cp,.int .i64 p1,.int .i64 p2,.agg (Zi c)] w (.int .i64 12):=by
 have HW:=Za (OG (p1,p2) n);have T:=Za (ei.new w (p1,p2) c);have HE:Zj (decide ((p1,p2)=(p2,p1))=true):=Za (decide_eq_true (by rw [he]));rw [h] at HW;clear h he;go_enter func132,ntmps132;go_upto_region 2 with (first | (refine JQ rfl 240 _ rfl ZC ?_; rw [show (Tryz.prog.built 240 _).getD #[]=YJ (p1,p2) from by kernel_rfl]) | (refine Up (w.heap.size+1) (YJ (p1,p2)) 240 (Fm w _ _ _) PA (UM _) ?_; rw [FE]));generalize (w.alloc (.cells (Zi c) 30)).alloc (.cells (YJ (p1,p2)) 240)=W at*;go_wp2_with (first | (refine Kl 240 (w.heap.size+1) T.o.2.1 underlying240 PA ?_));refine (HW.o _).mono ?_;rintro e w1 ⟨rfl,b1⟩;have T1:=Za (T.o.next b1);clear b1 T HW;go_wp2_with fail;refine Kk (fun w'=>Zp w1.heap.size w1 w') ZC ZC (Zn _ _).drew ?_;refine ZdL ?_;refine X7 ?_;refine ZdL ?_;refine X7 ?_;refine ZlY ?_;refine X7 ?_;refine DX (.bool true) rfl (fun w=>fJ rfl rfl HE.o) ?_;refine X7 ?_;refine Yo ?_;intro w2 b2;have T2:=Za (T1.o.next b2);clear b2 T1;go_wp2;go_ret;exact ⟨rfl,T2.o.2.2⟩
theorem Zc0 (S:Nat->Prop)(a:Option Addr)(l:List ZN)(cp i j:Nat)(s d:ZN)(c:Nat->Int)(w:Zc)(hL:FL w S a l)(hi:l[i]?=some s)(hj:l[j]?=some d)(Kj:i≠j)(hs:Yp s)(hd:Yp d) :
  Z3 132 #[.slice a l.length cp,.int .i64 i,.int .i64 j,.agg (Zi c)] w (.int .i64 (FU s d (c 6))):=by
 have FX:=(Zk.1 hi).1;have Fc:=(Zk.1 hj).1;obtain ⟨p1,hp1⟩ : ∃p1:Int,(i:Int)=p1:=⟨_,rfl⟩;obtain ⟨p2,rj⟩ : ∃p2:Int,(j:Int)=p2:=⟨_,rfl⟩;obtain ⟨n,hn⟩:=ZR (l.length);have h:inB ((i:Int),(j:Int)) n=true:=decide_eq_true Lu;have HE:Zj (decide (((i:Int),(j:Int))=((j:Int),(i:Int)))=false):=Za (decide_eq_false (by simp only [Prod.mk.injEq]; omega));rw [hp1,rj] at h HE ⊢;rw [hn] at FX Fc ⊢;have HW:=Za (OG (p1,p2) n);have T:=Za (ei.new w (p1,p2) c);rw [h] at HW;have HC:=Za (fun w=>Pe s d c w hs hd);generalize FU s d (c 6)=r at*;obtain ⟨g,off,rfl,rs⟩:=hL.at hi;obtain ⟨g',off',e',rd⟩:=hL.at hj;injection e' with e';injection e' with e1 e2 e3;subst e1 e2;have hg:g < w.heap.size:=by
  obtain ⟨b,o,e1,-,e2,-⟩:=hL Zd;injection e1 with e1;injection e1 with e1;omega
 have RS:=Za (Zm rs (Zm rd hg));have HP:=Za (Zm hp1 rj);clear rs rd hL hi hj hs hd h e3 hn hp1 rj;go_enter func132,ntmps132;go_upto_region 2 with (first | (refine JQ rfl 240 _ rfl ZC ?_; rw [show (Tryz.prog.built 240 _).getD #[]=YJ (p1,p2) from by kernel_rfl]) | (refine Up (w.heap.size+1) (YJ (p1,p2)) 240 (Fm w _ _ _) PA (UM _) ?_; rw [FE]));generalize (w.alloc (.cells (Zi c) 30)).alloc (.cells (YJ (p1,p2)) 240)=W at*;go_wp2_with (first | (refine Kl 240 (w.heap.size+1) T.o.2.1 underlying240 PA ?_));refine (HW.o _).mono ?_;rintro e w1 ⟨rfl,b1⟩;have T1:=Za (T.o.next b1);clear b1 T HW;go_wp2_with fail;refine Kk (fun w'=>Zp w1.heap.size w1 w') ZC ZC (Zn _ _).drew ?_;refine ZdL ?_;refine X7 ?_;refine ZdL ?_;refine X7 ?_;refine ZlY ?_;refine X7 ?_;refine DX (.bool false) rfl (fun w=>fJ rfl rfl HE.o) ?_;refine X7 ?_;refine Yo ?_;intro w2 b2;have T2:=Za (T1.o.next b2);clear b2 T1;have RS2:Zj (w2.rangeAt g (off+i*7) s.row/\w2.rangeAt g (off+j*7) d.row):=Za ⟨Q9 RS.o.1 (T2.o.2.2.block g RS.o.2.2),Q9 RS.o.2.1 (T2.o.2.2.block g RS.o.2.2)⟩;obtain ⟨rfl,rfl⟩:=HP.o;have g2:g < w2.heap.size:=YC RS.o.2.2 T2.o.2.2.size;have k1: ¬(i:Int)< 0:=Zd;have k2: ¬(n:Int)<=(i:Int):=Zd;have k3:(i:Int)< (n:Int):=Zd;have m1: ¬(j:Int)< 0:=Zd;have m2: ¬(n:Int)<=(j:Int):=Zd;have m3:(j:Int)< (n:Int):=Zd;go_wp2;refine Kk (fun w'=>Zp w2.heap.size w2 w') ZC ZC (Zn _ _).drew ?_;refine Ec ?_;refine Vv 68 _ g (off+i*7) s _ rfl rfl rfl (fun w' h=>Q9 RS2.o.1 (h.block g g2)) underlying68 rfl Ya ?_;refine X7 ?_;refine Ec ?_;refine Vv 68 _ g (off+j*7) d _ rfl rfl rfl (fun w' h=>Q9 RS2.o.2 (h.block g g2)) underlying68 rfl Ya ?_;refine X7 ?_;refine Jb 30 _ w.heap.size 30 (Zi c) _ rfl rfl rfl (fun w' h=>T2.o.1.below h T2.o.1.lt) underlying30 rfl Qk ?_;refine X7 ?_;refine RR (.int .i64 r) #[.agg (Ze s),.agg (Ze d),.agg (Zi c)] ZC ZC call188 (fun w' h=>(HC.o w').mono fun e w'' ⟨he,hb⟩=>⟨he,h.trans (hb.mono h.size)⟩) ?_;refine X7 ?_;go_big_quiet_step ((intros; rfl));refine Yo ?_;intro w3 b3;have B3:=Za (T2.o.2.2.trans (b3.mono T2.o.2.2.size));go_wp2;go_ret;exact ⟨rfl,B3.o⟩
theorem EE (S:Nat->Prop)(a:Option Addr)(l:List ZN)(cp:Nat)(p:Int × Int)(c:Nat->Int)(w:Zc)(hL:FL w S a l)(hf: ∀v ∈ l,Yp v) :
  Z3 132 #[.slice a l.length cp,.int .i64 p.1,.int .i64 p.2,.agg (Zi c)] w (.int .i64 (ES l p (c 6))):=by
 obtain ⟨p1,p2⟩:=p
 by_cases h:0<=p1/\0<=p2/\p1 < l.length/\p2 < l.length
 ·obtain ⟨i,rfl⟩:=Int.eq_ofNat_of_zero_le h.1;obtain ⟨j,rfl⟩:=Int.eq_ofNat_of_zero_le h.2.1;obtain ⟨s,hs⟩ : ∃s,l[i]?=some s:=⟨_,Zg Zd⟩;obtain ⟨d,hd⟩ : ∃d,l[j]?=some d:=⟨_,Zg Zd⟩;rw [xA (c 6) hs hd]
  by_cases he:i=j
  ·rw [if_pos he];exact xB a l.length cp i j c w (decide_eq_true h) Zd
  ·rw [if_neg he];exact Zc0 S a l cp i j s d c w hL hs hd he (hf s (Zz hs)) (hf d (Zz hd))
 ·have e:ES l (p1,p2) (c 6)=7:=by
   unfold ES;rw [if_pos Lu]
  rw [e];exact Zc1 a l.length cp p1 p2 c w (decide_eq_false h)
end
section
open Go Go.RowKit Go.Deep
def a8 (w W:Zc)(p:Int × Int)(c:Nat->Int) :Prop:=
 Zu W w.heap.size 240 (YJ p)/\Zu W (w.heap.size+1) 30 (Zi c)/\Zp w.heap.size w W
theorem a8.new (w:Zc)(p:Int × Int)(c:Nat->Int) :a8 w ((w.alloc (.cells (YJ p) 240)).alloc (.cells (Zi c) 30)) p c:=
 ⟨YK (Zs w _ _) _,Fm w _ _ _,((Zn _ _).alloc (Zh _) _).alloc ZE _⟩
theorem a8.next {w W W':Zc}{p:Int × Int}{c:Nat->Int}(h:a8 w W p c)(hb:Zp W.heap.size W W') :a8 w W' p c:=
 ⟨h.1.below hb h.1.lt,h.2.1.below hb h.2.1.lt,h.2.2.trans (hb.mono h.2.2.size)⟩
theorem lK (S:Nat->Prop)(a:Option Addr)(l:List ZN)(cp:Nat)(p:Int × Int)(c:Nat->Int)(w:Zc)(hL:FL w S a l)(hf: ∀v ∈ l,Yp v)(h:ES l p (c 6)≠0) :
  Z3 273 #[.agg (YJ p),.slice a l.length cp,.agg (Zi c)] w (.bool false):=by
 have T:=Za (a8.new w p c);have HR:=Za (fun w (hL:FL w S a l)=>EE S a l cp p c w hL hf);have HL:=Za (show FL ((w.alloc (.cells (YJ p) 240)).alloc (.cells (Zi c) 30)) S a l from hL.below T.o.2.2);generalize ES l p (c 6)=r at*;have q:(r != 0)=true:=KM;obtain ⟨n,hn⟩:=ZR (l.length);rw [hn] at HR ⊢;obtain ⟨p1,p2⟩:=p;simp only at HR;clear hL hf h hn;go_enter func273,ntmps273;go_upto_region 1 with (fail);generalize (w.alloc (.cells (YJ (p1,p2)) 240)).alloc (.cells (Zi c) 30)=W at*;have x0:W.cell? ⟨w.heap.size,0,none⟩=some (.int .i64 p1):=T.o.1.cell 0;have x1:W.cell? ⟨w.heap.size,1,none⟩=some (.int .i64 p2):=T.o.1.cell 1;go_quiet (fail);have T1:Zj (a8 w (W.drewN nq) (p1,p2) c):=Za ⟨T.o.1,T.o.2.1,below_drewN T.o.2.2 nq⟩;have dP:Zj (FL (W.drewN nq) S a l):=Za HL.o;clear T HL x0 x1;generalize W.drewN nq=w1 at*;go_wp2_with (first | (refine Kl 30 (w.heap.size+1) T1.o.2.1 underlying30 Qk ?_));refine (HR.o _ dP.o).mono ?_;rintro e w2 ⟨rfl,b2⟩;have B2:=Za (T1.o.2.2.trans (b2.mono T1.o.2.2.size));clear b2;go_wp2_with fail;go_ret;exact ⟨rfl,B2.o⟩
theorem rM {w:Zc}{g cp i j:Nat}{l:List ZN}{s d:ZN}(h:w.ownsRow 0 68 7 (.slice (some ⟨g,0,none⟩) l.length cp) l.length (XC l))(hi:l[i]?=some s)(hj:l[j]?=some d)(Kj:i≠j)(x y:ZN) :
  w.there g (i*7) 7/\(w.setCells g (i*7) x.row).there g (j*7) 7/\((w.setCells g (i*7) x.row).setCells g (j*7) y.row).ownsRow 0 68 7 (.slice (some ⟨g,0,none⟩) l.length cp) l.length (XC ((l.set i x).set j y)):=by
 obtain ⟨h1,h2⟩:=PH h hi x;have e:(l.set i x).length=l.length:=List.length_set;rw [<-e] at h1;have SI:(l.set i x)[j]?=some d:=jl
 obtain ⟨h3,h4⟩:=PH h1 SI y;rw [e] at h3;exact ⟨h2,h4,h3⟩
theorem lL (g:Nat)(l:List ZN)(cp i j:Nat)(s d:ZN)(c:Nat->Int)(w:Zc)(hO:w.ownsRow 0 68 7 (.slice (some ⟨g,0,none⟩) l.length cp) l.length (XC l))(hf: ∀v ∈ l,Yp v)
  (hi:l[i]?=some s) (hj:l[j]?=some d) (Kj:i≠j) (hk:FU s d (c 6)=0) :
  Calls Zb 273 #[.agg (YJ ((i:Int),(j:Int))),.slice (some ⟨g,0,none⟩) l.length cp,.agg (Zi c)] w fun e w'=>e= .returned (.bool true)/\
   w'.ownsRow 0 68 7 (.slice (some ⟨g,0,none⟩) l.length cp) l.length (XC ((l.set i (Fg s)).set j (PF s d)))/\ZA (fun k=>k=g) w w':=by
 have hgw:g < w.heap.size:=(hO.lt g rfl).2;have T:=Za (a8.new w ((i:Int),(j:Int)) c);have HR:=Za (fun w (hL:FL w (fun _=>False) (some ⟨g,0,none⟩) l)=>EE (fun _=>False) (some ⟨g,0,none⟩) l cp ((i:Int),(j:Int)) c w hL hf);rw [xA (c 6) hi hj,if_neg Kj,hk] at HR;have hs:=hf s (Zz hi);have hd:=hf d (Zz hj);have HA:=Za (fun w=>tT s d c w hs hd hk);have HO:Zj (((w.alloc (.cells (YJ ((i:Int),(j:Int))) 240)).alloc (.cells (Zi c) 30)).ownsRow 0 68 7 (.slice (some ⟨g,0,none⟩) l.length cp) l.length (XC l)):=Za (Va hO (fun k hk=>by
  simp only [YZ,QW] at hk;subst hk;exact T.o.2.2.block _ hgw))
 have HIJ:=Za (Zm hi (Zm hj Kj));have FX:=(Zk.1 hi).1;have Fc:=(Zk.1 hj).1;obtain ⟨n,hn⟩:=ZR (l.length);have HN:=Za hn;rw [hn] at HR FX Fc ⊢;simp only at HR;clear hO hi hj Kj hk hs hd hf hn;go_enter func273,ntmps273;go_upto_region 1 with (fail);generalize (w.alloc (.cells (YJ ((i:Int),(j:Int))) 240)).alloc (.cells (Zi c) 30)=W at*;have x0:W.cell? ⟨w.heap.size,0,none⟩=some (.int .i64 (i:Int)):=T.o.1.cell 0;have x1:W.cell? ⟨w.heap.size,1,none⟩=some (.int .i64 (j:Int)):=T.o.1.cell 1;go_quiet (fail);have T1:Zj (a8 w (W.drewN nq) ((i:Int),(j:Int)) c):=Za ⟨T.o.1,T.o.2.1,below_drewN T.o.2.2 nq⟩;have O1:Zj ((W.drewN nq).ownsRow 0 68 7 (.slice (some ⟨g,0,none⟩) l.length cp) l.length (XC l)):=Za HO.o;clear T HO x0 x1;generalize W.drewN nq=w1 at*;go_wp2_with (first | (refine Kl 30 (w.heap.size+1) T1.o.2.1 underlying30 Qk ?_));refine (HR.o _ (F8 O1.o (fun _ _ h=>h))).mono ?_;rintro e w2 ⟨rfl,b2⟩;have g1:g < w1.heap.size:=(O1.o.lt g rfl).2;have T2:=Za (T1.o.next b2);have O2:Zj (w2.ownsRow 0 68 7 (.slice (some ⟨g,0,none⟩) l.length cp) l.length (XC l)):=Za (Va O1.o (fun k hk=>by
  simp only [YZ,QW] at hk;subst hk;exact b2.block _ g1))
 clear b2 T1 O1 HR;go_wp2_with fail;have k1: ¬(i:Int)< 0:=Zd;have k2: ¬(n:Int)<=(i:Int):=Zd;have k3:(i:Int)< (n:Int):=Zd;have m1: ¬(j:Int)< 0:=Zd;have m2: ¬(n:Int)<=(j:Int):=Zd;have m3:(j:Int)< (n:Int):=Zd;have R2:Zj (w2.drew.rangeAt g (i*7) s.row/\w2.drew.rangeAt g (j*7) d.row/\Zu w2.drew (w.heap.size+1) 30 (Zi c)):=Za (by
  have hL:=F8 (S:=fun _=>False) O2.o (fun _ _ h=>h);obtain ⟨b,o,e1,r1⟩:=hL.at HIJ.o.1;obtain ⟨b',o',e2,r2⟩:=hL.at HIJ.o.2.1;injection e1 with e1;injection e1 with e1 e3 _;injection e2 with e2;injection e2 with e2 e4 _;subst e1 e2 e3 e4;rw [Nat.zero_add] at r1 r2;exact ⟨r1,r2,T2.o.2.1⟩)
 have G2:Zj (g < w2.drew.heap.size):=Za (O2.o.lt g rfl).2;refine Ti (fun w'=>Zu w' (w.heap.size+1) 30 (Zi c)) 11 [0,1,2,3,4,5,6,8,9,10,12] R2.o.2.2 ?_;refine JH ?_;show wpQuiet _ _ _ _ [_,_,_,_,_,_,_,_,_,_,_] _;iterate 10 (go_big_quiet_step ((intros; rfl)))
 refine Jb 30 _ (w.heap.size+1) 30 (Zi c) _ rfl rfl rfl (fun w' h=>h) underlying30 rfl Qk ?_;refine X7 ?_;refine Yo ?_;refine KC (i:=7) (k:=11) ZC (of_decide_eq_true ZC) (of_decide_eq_true ZC) ?_ ?_
 ·refine Yv rfl rfl (wp_load_mid 68 _ rfl g (i*7) rfl s.row _ R2.o.1 underlying68 rfl Ya ?_);refine ⟨R2.o.2.2,?_⟩;refine Ee ?_;refine Eh (i:=11) ZC (of_decide_eq_true ZC) ?_;refine Yv rfl rfl (wp_load_mid 68 _ rfl g (j*7) rfl d.row _ R2.o.2.1 underlying68 rfl Ya ?_);exact zT7
 ·refine Yv rfl rfl (wp_load_mid 68 _ rfl g (j*7) rfl d.row _ R2.o.2.1 underlying68 rfl Ya ?_);refine ⟨R2.o.2.2,?_⟩;refine Ee ?_;refine Eh (i:=7) ZC (of_decide_eq_true ZC) ?_;refine Yv rfl rfl (wp_load_mid 68 _ rfl g (i*7) rfl s.row _ R2.o.1 underlying68 rfl Ya ?_);exact zT7
theorem ij (a:Option Addr)(l:List ZN)(cp:Nat)(p:Int × Int)(c:Nat->Int)(w:Zc)(hO:w.ownsRow 0 68 7 (.slice a l.length cp) l.length (XC l))(hf: ∀v ∈ l,Yp v) :
  Calls Zb 273 #[.agg (YJ p),.slice a l.length cp,.agg (Zi c)] w fun e w'=>e= .returned (.bool (decide (ES l p (c 6)=0)))/\
   w'.ownsRow 0 68 7 (.slice a l.length cp) l.length (XC (Gp l p (c 6)))/\ZA (fun k=>(Ys a l.length cp).ownBlock=some k) w w':=by
 by_cases h:ES l p (c 6)=0
 ·rw [decide_eq_true h,show Gp l p (c 6)=Aw l p.1.toNat p.2.toNat from if_pos h];obtain ⟨i,j,s,d,rfl,Kj,hi,hj,hk⟩:=l4 h;have FX:=(Zk.1 hi).1;simp only [Aw,Int.toNat_natCast,VG hi,VG hj];obtain ⟨g,rfl⟩ : ∃g,a=some ⟨g,0,none⟩:=by
   rcases hO.2 with ⟨_,h0⟩ | ⟨g,Bg,cur,h1,_⟩
   ·omega
   ·injection h1 with h1 _ _;exact ⟨g,h1⟩
  exact (lL g l cp i j s d c w hO hf hi hj Kj hk).mono fun e w' ⟨he,ho,k⟩=>⟨he,ho,k.more (fun i _ e=>by subst e; rfl)⟩
 ·rw [decide_eq_false h,show Gp l p (c 6)=l from if_neg h];exact (lK (fun _=>False) a l cp p c w (F8 hO (fun _ _ h=>h)) hf h).mono fun e w' ⟨he,hb⟩=>⟨he,Va hO (fun k hk=>hb.block k (hO.lt k hk).2),ZA.of_below hb⟩
end
section
open Go Go.RowKit Go.Deep
def Gz (L:List Bool) :Array Zl:=(L.map Value.bool).toArray
theorem lj (n:Nat) :madeCells #[.bool false] n=Gz (ZD n false):=by
 apply Array.ext
 ·simp [madeCells,Gz]
 ·intro i h1 h2;simp [madeCells,Nat.mod_one,Gz]
theorem p7: ∃i,Tryz.prog.info? 4=some i/\i.zero=some (.bool false)/\i.size=1/\i.bytes=1:=by
 have h:(Tryz.prog.info? 4).map (fun i=>(i.zero,i.size,i.bytes))=some (some (.bool false),1,1):=ZC
 cases hi:Tryz.prog.info? 4 with
 | none=>exact LV
 | some i=>
  exact Oa
theorem MV (n:Nat)(hn:n<=100000)(w:Zc) :
  (Instr.makeSlice 127 (.int .i64 (n:Int)) (.int .i64 (n:Int))).run Zb w= .ok (.slice (some ⟨w.heap.size,0,none⟩) n n) (w.alloc (.cells (Gz (ZD n false)) 4)):=by
 obtain ⟨i,hi,hz,hs,Ns⟩:=p7;have Ew:=Jc (P:=Zb) 127 4 i _ underlying127 hi hz .i64 .i64 n n (Zh _) CC Zd w;rw [hs,Nat.mul_one] at Ew;have hz':(Value.bool false).cells= #[.bool false]:=rfl;rw [hz',lj] at Ew;exact Ew
theorem qe {L:List Bool}{i:Nat}(hi:i < L.length) :(Gz L)[i]?=some (.bool (L.getD i false)):=by
 rw [Gz,List.getElem?_toArray,List.getElem?_map,List.getD_eq_getElem?_getD,Zg hi];rfl
theorem jM (L:List Bool)(i:Nat)(b:Bool) :(Gz L).setIfInBounds i (.bool b)=Gz (L.set i b):=by
 simp [Gz,List.map_set]
def aU (w:Zc)(g:Nat)(L:List Bool) :Prop:=Zu w g 4 (Gz L)
theorem aU.cell {w:Zc}{g:Nat}{L:List Bool}(h:aU w g L){i:Nat}(hi:i < L.length) :w.cell? ⟨g,i,none⟩=some (.bool (L.getD i false)):=(Zu.cell h i).trans (qe hi)
theorem aU.frozen {w:Zc}{g:Nat}{L:List Bool}(h:aU w g L)(i:Nat) :w.frozen? ⟨g,i,none⟩=false:=Zu.frozen h i
theorem aU.set {w:Zc}{g:Nat}{L:List Bool}(h:aU w g L)(i:Nat)(b:Bool) :aU (w.setCell ⟨g,i,none⟩ (.bool b)) g (L.set i b):=by
 have:=Zu.set_ h i (.bool b);rw [jM] at this;exact this
end
section
open Go Go.RowKit Go.Deep
def B9 (c:Nat->Int)(q:List (Int × Int)) :Nat:=min (c 17).toNat q.length
def Fk (mb:Int)(l:List ZN)(q:List (Int × Int))(k m:Nat) :List Bool:=LM mb l (q.take k)++ZD (m - k) false
theorem sw (mb:Int)(l:List ZN)(q:List (Int × Int))(m:Nat) :Fk mb l q 0 m=ZD m false:=by simp [Fk,LM]
theorem xX (mb:Int)(l:List ZN)(q:List (Int × Int)){k m:Nat}(hk:k<=m)(hm:m<=q.length) :(Fk mb l q k m).length=m:=by
 simp only [Fk,List.length_append,az,Xl,List.length_replicate];omega
theorem su (mb:Int)(l:List ZN)(q:List (Int × Int)){k m:Nat}{p:Int × Int}(hp:q[k]?=some p)(hk:k < m)(hm:m<=q.length) :
  (Fk mb l q k m).set k (decide (ES (Kb mb l (q.take k)) p mb=0))=Fk mb l q (k+1) m:=by
 have hl:(LM mb l (q.take k)).length=k:=by rw [az,Xl]; omega
 unfold Fk;rw [List.set_append,hl,if_neg Zd,Nat.sub_self,Co hp,mw,show m - k=(m -(k+1))+1 by omega,List.replicate_succ,List.set_cons_zero];simp
theorem xW (mb:Int)(l:List ZN)(q:List (Int × Int))(m:Nat) :Fk mb l q m m=LM mb l (q.take m):=by simp [Fk]
theorem oq {w:Zc}{B n:Nat}{e:TypeId}{sz:Nat}{v:Zl}{xs:List Zl}(h:w.ownsRow 0 e sz v n xs)(hB: ∀k,v.ownBlock=some k->B<=k) :w.ownsRow B e sz v n xs:=Zfc
def Wk (w wr:Zc)(v:Zl)(n g:Nat)(L:List ZN)(B:List Bool)(c:Nat->Int) :Prop:=
 wr.ownsRow (w.heap.size+1) 68 7 v n (XC L)/\aU wr g B/\v.ownBlock≠some g/\w.heap.size < g/\Zu wr w.heap.size 30 (Zi c)/\Zp w.heap.size w wr
theorem iS (a b:Option Addr)(cp cq:Nat)(l:List ZN)(q:List (Int × Int))(c:Nat->Int)(w:Zc)(hL:FL w (fun _=>False) a l)(hq:Prs w (fun _=>False) b q)(hf: ∀v ∈ l,Yp v)(h17:0<=c 17)(hl:l.length<=4096)(hql:q.length<=4096) :
  Calls Zb 242 #[.slice a l.length cp,.slice b q.length cq,.agg (Zi c)] w fun e w'=> ∃v g,e= .returned (.tuple #[v,.slice (some ⟨g,0,none⟩) (B9 c q) (B9 c q)])/\
   w'.ownsRow w.heap.size 68 7 v l.length (XC (Kb (c 6) l (q.take (B9 c q))))/\aU w' g (LM (c 6) l (q.take (B9 c q)))/\v.ownBlock≠some g/\w.heap.size<=g/\Zp w.heap.size w w':=by
 obtain ⟨m,hm⟩:=ZR (B9 c q);have hmq:m<=q.length:=by rw [<-hm]; exact Nat.min_le_right _ _
 have rf:min (c 17) (q.length:Int)=(m:Int):=by rw [<-hm]; unfold B9; omega
 have jv:max (0:Int) (m:Int)=(m:Int):=Zd;rw [hm];have hm60:m<=4096:=Zd;have Ew:=fun w=>MV m Zd w
 have hB:Zu (w.alloc (.cells (Zi c) 30)) w.heap.size 30 (Zi c):=Zs _ _ _;have b0:Zp w.heap.size w (w.alloc (.cells (Zi c) 30)):=(Zn _ _).alloc (Zh _) _;have HB:=Za (Zm hB b0);have HC:=Za (Np (fun _=>False) a cp l (w.alloc (.cells (Zi c) 30)) (hL.below b0) Zd);have HQ:=Za hq;have HF:=Za (fun k=>Ch (c 6) (q.take k) l hf);have HS:Zj ((w.alloc (.cells (Zi c) 30)).heap.size=w.heap.size+1):=Za ZE;obtain ⟨n,hn⟩:=ZR (l.length);obtain ⟨nq,hnq⟩:=ZR (q.length);rw [hn] at HC ⊢;rw [hnq] at rf hmq ⊢;have HN:=Za (Zm hn hnq);clear hB b0 hL hq hf hm hn hnq;go_enter func242,ntmps242;go_upto_region 1 with (fail);generalize w.alloc (.cells (Zi c) 30)=W at*;go_wp2_with fail;refine HC.o.mono ?_;rintro e w1 ⟨v,rfl,ho,b1⟩;have x17:w1.cell? ⟨w.heap.size,17,none⟩=some (.int .i64 (c 17)):=(HB.o.1.below b1 HB.o.1.lt).cell 17;have H1:Zj (w1.ownsRow (w.heap.size+1) 68 7 v n (XC l)/\Zu w1 w.heap.size 30 (Zi c)/\Zp w.heap.size w w1):=Za ⟨HS.o▸ho,HB.o.1.below b1 HB.o.1.lt,HB.o.2.trans (b1.mono HB.o.2.size)⟩;clear ho b1 HB HC HS;go_upto_region 3 with (fail);have A0:Zj (Wk w (w1.alloc (.cells (Gz (ZD m false)) 4)) v n w1.heap.size (Kb (c 6) l (q.take 0)) (Fk (c 6) l q 0 m) c):=by
  rw [sw];refine Za ⟨World.ownsRow.alloc H1.o.1 _,Zs _ _ _,fun e=>?_,?_,H1.o.2.1.alloc _,H1.o.2.2.alloc H1.o.2.2.size _⟩
  ·have:=(H1.o.1.lt _ e).2;omega
  ·have:=H1.o.2.1.lt;exact this
 have HV:Zj (∃a' Bg,v= .slice a' n Bg/\ ∀k,v.ownBlock=some k->w.heap.size < k):=Za (by
  obtain ⟨a',Bg,e,-,-⟩:=UT (Di H1.o.1 (XY _));exact ⟨a',Bg,e,fun k hk=>by have:=(H1.o.1.lt k hk).1; omega⟩)
 clear H1 x17 Ew rf jv;obtain ⟨a',Bg,hv,hvk⟩:=HV.o;have HVK:=Za hvk;clear HV hvk;subst hv;generalize w1.alloc (.cells (Gz (ZD m false)) 4)=W2 at*;generalize w1.heap.size=g at*;go_wp2;go_loopw [22] (fun s22 wr=> ∃k:Nat,k<=m/\s22= .int .i64 k/\Zj (Wk w wr (.slice a' n Bg) n g (Kb (c 6) l (q.take k)) (Fk (c 6) l q k m) c)) (fun s22 _=>m -(intOf s22).toNat)
 case atStart=>exact ⟨0,by omega,rfl,A0⟩
 case round=>
  obtain ⟨k,hk,rfl,HA⟩:=hrel;clear A0
  by_cases XJ:k < m
  ·obtain ⟨p,hp⟩ : ∃p,q[k]?=some p:=⟨_,Zg Yd⟩;obtain ⟨qb,qo,rfl,hrp⟩:=(HQ.o.below HA.o.2.2.2.2.2).at hp;have hqb:qb < w.heap.size:=by
    obtain ⟨b,off,h1,h2,h3,h4⟩:=HQ.o Yd;injection h1 with h1;injection h1 with h1;omega
   have HP:=Za hp;have HR:=Za (Zm hrp (Zm hqb hmq));have k1: ¬(k:Int)< 0:=Zd;have k2: ¬(nq:Int)<=(k:Int):=Zd;have k3:(k:Int)< (nq:Int):=Zd;have j2: ¬(m:Int)<=(k:Int):=Zd;have j3:(k:Int)< (m:Int):=Zd;clear hp hrp hqb;go_upto_region 6 with (fail);refine L5 (fun w'=>w'.rangeAt qb (qo+k*2) (Kc p)/\Zu w' w.heap.size 30 (Zi c)) 9 1 [0,1,2,3,4,5,6,7] ⟨HR.o.1,HA.o.2.2.2.2.1⟩ ?_;refine JH ?_;show wpQuiet _ _ _ _ [_,_,_,_,_,_,_,_] _;refine Sk ?_;refine il 116 _ qb (qo+k*2) p _ rfl rfl rfl (fun w' h=>h.1) underlying116 rfl MD ?_;refine X7 ?_;refine U4 ?_;refine Jb 30 _ w.heap.size 30 (Zi c) _ rfl rfl rfl (fun w' h=>h.2) underlying30 rfl Qk ?_;refine X7 ?_;refine Yo ?_;refine JC (i:=8) ?_;have HL:Zj ((Kb (c 6) l (q.take k)).length=n):=Za (by rw [RY]; exact HN.o.1);have HPF:=Za (HL.o▸ij a' (Kb (c 6) l (q.take k)) Bg p c wr.drew (by rw [HL.o]; exact Di HA.o.1 (XY _)) (HF.o k) :Calls Zb 273 #[.agg (YJ p),.slice a' n Bg,.agg (Zi c)] wr.drew fun e w'=>e= .returned (.bool (decide (ES (Kb (c 6) l (q.take k)) p (c 6)=0)))/\
    w'.ownsRow 0 68 7 (.slice a' n Bg) n (XC (Gp (Kb (c 6) l (q.take k)) p (c 6)))/\ZA (fun i=>(Ys a' n Bg).ownBlock=some i) wr.drew w')
   refine JA #[.agg (YJ p),.slice a' n Bg,.agg (Zi c)] call273 (HPF.o.mono ?_);rintro e w2 ⟨rfl,ho,kp⟩;have A2:Zj (Wk w w2 (.slice a' n Bg) n g (Kb (c 6) l (q.take (k+1))) (Fk (c 6) l q k m) c):=by
    obtain ⟨h1,h2,h3,h4,h5,h6⟩:=HA.o;have kp':ZA (fun i=>(Ys a' n Bg).ownBlock=some i) wr w2:=(ZA.refl _ wr).drew.trans kp (fun _ _ h=>h);rw [Co HP.o,mx];refine Za ⟨oq ho (fun i hi=>HVK.o i hi),Zu.kept h2 kp' (fun e=>h3 e),h3,h4,h5.kept kp' (fun e=>?_),ZA.below h6.drew kp (fun i hi=>Nat.le_of_lt (HVK.o i hi)) h6.size⟩;have:=HVK.o _ e;omega
   have R2:Zj (w2.rangeAt qb (qo+k*2) (Kc p)):=Za (Q9 HR.o.1 (kp.block qb (YC HR.o.2.1 HA.o.2.2.2.2.2.size) (fun e=>by
    have:=HVK.o _ e;have:=HR.o.2.1;omega)))
   clear ho kp HPF HL HA;have LB:=xX (c 6) l q (k:=k) (m:=m) Zd (by rw [HN.o.2]; exact hmq);have z1:w2.cell? ⟨g,k,none⟩=some (.bool ((Fk (c 6) l q k m).getD k false)):=A2.o.2.1.cell Zd;have z2:w2.frozen? ⟨g,k,none⟩=false:=A2.o.2.1.frozen k;have SN:=Za (su (c 6) l q (k:=k) (m:=m) HP.o XJ (by rw [HN.o.2]; exact hmq));clear LB;generalize decide (ES (Kb (c 6) l (q.take k)) p (c 6)=0)=r at*;refine ⟨_,rfl,⟨R2.o,A2.o.2.2.2.2.1⟩,?_⟩;refine GD ?_;refine ⟨by kernel_rfl,?_⟩;refine LA ?_;go_wp2;refine U1 ?_;have A3:Zj (Wk w (w2.setCell ⟨g,k,none⟩ (.bool r)) (.slice a' n Bg) n g (Kb (c 6) l (q.take (k+1))) (Fk (c 6) l q (k+1) m) c):=by
    obtain ⟨h1,h2,h3,h4,h5,h6⟩:=A2.o;rw [<-SN.o];refine Za ⟨oq (Va (Di h1 (XY _)) (fun i hi=>Below.heap_setCell w2 _ _ i (fun e=>h3 (by rw [hi]; exact congrArg some e)))) (fun i hi=>HVK.o i hi),h2.set k r,h3,h4,h5.far Lu _,h6.setCell Lu _⟩
   clear A2 z1 z2 R2;generalize w2.setCell ⟨g,k,none⟩ (.bool r)=w3 at*;go_wp2;go_roundw
   case rel=>exact ⟨k+1,by omega,by go_num,A3⟩
   case measure=>exact KX
  ·obtain rfl:k=m:=Zd;have HZ:Zj (Wk w wr (.slice a' n Bg) n g (Kb (c 6) l (q.take k)) (LM (c 6) l (q.take k)) c):=by
    have:=HA.o;rw [xW] at this;exact Za this
   clear HA XJ;have XJ: ¬k < k:=Zd;go_wp2;go_ret2;obtain ⟨h1,h2,h3,h4,h5,h6⟩:=HZ.o;exact ⟨_,_,rfl,Di h1 Zd,h2,h3,by omega,h6⟩
end
section
open Go Go.RowKit
structure ec (c:Nat->Int) :Prop where
 ub0:0<=c 10
 ub1:c 10<=1048576
 sd0:0<=c 11
 sd1:c 11<=1048576
 num0:0<=c 18
 num1:c 18<=c 19
 den0:1<=c 19
 den1:c 19<=4294967296
theorem bM {c:Nat->Int}(hf:Wi c)(h:TM c=0) :ec c:=by
 rcases Nn c with ⟨_,hb⟩ | ⟨k,_,_,_,e⟩
 ·have SG:=Ko (hb 10 Zd);have GM:decide (c 10 < c 11/\c 11<=1048576)=true:=hb 11 Zd;have h18:decide (c 18<=c 19)=true:=hb 18 Zd;have h19:=Ko (hb 19 Zd);have f18:(Lit.int .u64 (c 18)).wf=true:=hf 18 Zd;simp at GM h18;exact ⟨by omega,SG.2,by omega,GM.2,(bounds_u64 f18).1,h18,h19.1,h19.2⟩
 ·omega
def DQ (v:ZN)(c:Nat->Int) :Int:=(amQ v.bal.toNat (c 18).toNat (c 19).toNat:Nat)
def xm (v:ZN)(c:Nat->Int) :Bool:=Zbd v.bal.toNat (c 18).toNat (c 19).toNat
theorem Nv {v:ZN}(c:Nat->Int)(hv:Yp v) :0<=DQ v c/\DQ v c<=v.bal:=by
 have:=ZgO v.bal.toNat (c 18).toNat (c 19).toNat;have h:=hv.bal;unfold DQ;omega
theorem ai {v:ZN}{c:Nat->Int}(hv:Yp v)(hc:ec c)(w:Zc) :
  Z3 178 #[.int .u64 v.bal,.int .u64 (c 18),.int .u64 (c 19)] w (.tuple #[.int .u64 (DQ v c),.bool (xm v c)]):=by
 have h:=jH v.bal.toNat (c 18).toNat (c 19).toNat w (by have:=hv.bal; omega) (by have:=hc.num1; have:=hc.den1; omega) (by have:=hc.den1; omega);rw [VE hv.bal.1,VE hc.num0,VE (show 0<=c 19 by have:=hc.den0; omega)] at h;exact h
def Fl (v:ZN)(e:Int)(c:Nat->Int) :Int × ZN:=QE (KI v e (c 11)) { v with bal:=v.bal - DQ v c}
def slN (v:ZN)(e:Int)(c:Nat->Int) :Int:=if(Fl v e c).1=0 then DQ v c else 0
theorem sC {v:ZN}(e:Int){c:Nat->Int}(w:Zc)(hv:Yp v)(hc:ec c) :
  Z3 128 #[.agg (Ze v),.int .i64 e,.agg (Zi c)] w (Wq (Fl v e c) (slN v e c)):=by
 obtain ⟨p0,p1⟩:=Nv c hv
 by_cases h:v.st=2
 ·have:=dc v e (DQ v c) (xm v c) c w hv.2 hc.sd0 hc.sd1 p0 p1 hv.bal.2 KM (ai hv hc);rwa [show ([Un,QH 7,Ja e (c 11),XA e] :List OU)=KI v e (c 11) from (if_pos h).symm] at this
 ·have:=iM v e (DQ v c) (xm v c) c w hv.2 hc.sd0 hc.sd1 p0 p1 hv.bal.2 KM (ai hv hc);rwa [show ([Un,QH 7,Ja e (c 11)] :List OU)=KI v e (c 11) from (if_neg h).symm] at this
theorem iD: ∀(es:List OU) (x:ZN),(∀e ∈ es,∀x,(e x).2.bal=x.bal)->(QE es x).1=0->(QE es x).2.bal=x.bal
 | [],x,_,_=>rfl
 | e::es,x,h,h0=>by
  unfold QE at h0 ⊢
  split at h0
  ·rename_i hc
   rw [if_pos hc,iD es _ (fun e he=>h e (by simp [he])) h0];exact h e ZE x
  ·rename_i hc
   exact absurd h0 hc
theorem aw {v:ZN}(e:Int)(c:Nat->Int)(h:(Fl v e c).1=0) :(Fl v e c).2.bal+slN v e c=v.bal:=by
 have k:=iD (KI v e (c 11)) { v with bal:=v.bal - DQ v c} (fun f hf x=>by
  have hm: ∀x,(Un x).2.bal=x.bal:=fun x=>by unfold Un; split <;> rfl
  have hp: ∀x,(QH 7 x).2.bal=x.bal:=fun x=>by unfold QH; split <;> rfl
  have hh: ∀x,(Ja e (c 11) x).2.bal=x.bal:=fun x=>by unfold Ja; split <;> rfl
  have hr: ∀x,(XA e x).2.bal=x.bal:=fun x=>by unfold XA; split <;> rfl
  unfold KI at hf
  split at hf
  ·simp only [ZX,Yk,or_false] at hf
   rcases hf with rfl | rfl | rfl | rfl
   ·exact hm x
   ·exact hp x
   ·exact hh x
   ·exact hr x
  ·simp only [ZX,Yk,or_false] at hf
   rcases hf with rfl | rfl | rfl
   ·exact hm x
   ·exact hp x
   ·exact hh x) h
 unfold slN Fl at*;rw [if_pos h,k];simp only;omega
theorem Cf {v:ZN}{e:Int}{c:Nat->Int}(hv:Yp v)(h:(Fl v e c).1=0) :Yp (Fl v e c).2:=by
 have hb:=aw e c h;obtain ⟨p0,p1⟩:=Nv c hv;have hbv:=hv.bal;have hn:slN v e c=DQ v c:=by unfold slN; rw [if_pos h]
 have hwf: ∀x:Int,0<=x->x<=18446744073709551615->(Lit.int .u64 x).wf=true:=fun x h0 h1=>by
  exact jf
 refine ⟨hwf _ Zd Zd,?_⟩;unfold Fl at*;rw [show KI v e (c 11)=KI { v with bal:=v.bal - DQ v c} e (c 11) from rfl] at h ⊢
 by_cases h1:v.sl=true
 ·exact pg
 ·have h1:v.sl=false:=QT
  by_cases h2:Jz v.st 7=0
  ·exact o9
  ·by_cases h3:OR e (c 11)
   ·rw [oD (v:= { v with bal:=v.bal - DQ v c}) h1 h2 h3];exact cO v.st 7
   ·exact o7
end
end Go.Proofs.YtobgbcdgffgdhaaGreat
