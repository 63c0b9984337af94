/- Part 39 of 58: L16Apply L16Req L16Perf L16Bool L16Step Sl. -/
import Derived.Test.YtianiiijaopdpaaGreatZu00
import Derived.Test.YtianiiijaopdpaaGreatZu23
import Derived.Test.YtianiiijaopdpaaGreatZu29
import Derived.Test.YtianiiijaopdpaaGreatZu38
namespace Go.Proofs.YtianiiijaopdpaaGreat
set_option linter.unusedVariables false
set_option linter.unusedSimpArgs false
set_option maxRecDepth 100000
set_option maxHeartbeats 8000000
open _root_.And renaming intro → Zl
open _root_.Go.RowKit renaming Below → Zt
open _root_.Go.RowKit.Below renaming refl → Zr
open _root_.Go.Proofs.YtianiiijaopdpaaGreat.Zy renaming alloc → YF, new → Zw
open _root_.Go renaming Calls → Zi, Value → Zo, World → Zc, below_setRow → Xx, setRow_heap → Yc, setRow_other → VO, undef → K8, wpList_build → J1, wpList_load_row → Zn, wpList_store_row → Zm, wpQuiet_nil → Zj
open _root_.Go.Lib renaming hid → Za
open _root_.List renaming getElem?_eq_getElem → Zf, getElem?_eq_some_iff → Zh, length_take → Xm, mem_cons → Z6, mem_of_getElem? → ZE, not_mem_nil → Ya, replicate → ZF
open _root_.Nat renaming le_refl → Zg, lt_of_lt_of_le → Yp, zero_le → Jr
open _root_.Go.NoPanic renaming normal → ZH
open _root_.Option.some renaming injEq → Qj
open _root_.Go.Region renaming seqB → YH
open _root_.Go.Result renaming andThen → Xd
open _root_.Go.Proofs.Tryz renaming prog → Zb, underlying24 → ZC, underlying281 → QY, underlying63 → Zs
open _root_.Go.Value renaming ownBlock → Xq, slice → Yr
open _root_.Go.Proofs.YtianiiijaopdpaaGreat.World.rangeAt renaming same → QZ
theorem zT6 {G:Prop} (h:G:=by
  refine ⟨R2.out.2.2,?_⟩;simp only [Act.put,qG,qS];refine De (i:=13) Yi (of_decide_eq_true Yi) ?_;refine JM #[.agg (Zd s),.agg (Zd d),.agg (Zk c)] Tryz.call317 ((HA.out w2.drew).mono ?_);rintro e w3 ⟨rfl,b3⟩;have D3:Hid (Zy w3 (w.heap.size+1) 24 (Zk c)):=Lib.hid (R2.out.2.2.below b3 R2.out.2.2.lt);have F3:Hid (w3.there g (i*7) 7∧(w3.setCells g (i*7) (Zd (Fg s)).toList).there g (j*7) 7∧((w3.setCells g (i*7) (Zd (Fg s)).toList).setCells g (j*7) (Zd (Oh s d)).toList).ownsRow 0 63 7 (.slice (some ⟨g,0,none⟩) l.length cp) l.length (XC ((l.set i (Fg s)).set j (Oh s d)))):=Lib.hid (owns_move (KJ O2.out (fun k hk=>by simp only [Value.ownBlock,Option.some.injEq] at hk; subst hk; exact b3.block _ G2.out)) HIJ.out.1 HIJ.out.2.1 HIJ.out.2.2 _ _);have K3:Hid (Kept (fun k=>k=g) w w3):=Lib.hid (Kept.of_below (T2.out.2.2.drew.trans (b3.mono T2.out.2.2.size)));have N3:Hid (g≠w.heap.size+1):=Lib.hid Ze;clear b3;refine ⟨_,rfl,D3.out,?_⟩;simp only [Act.put,qG,qS];refine Fv (f:=3) (fun w'=>Zy w' (w.heap.size+1) 24 (Zk c)) [14,15,16,17,18] (fun _ h=>h) Yi D3.out ?_;simp only [qF,qH];show wpQuiet _ _ _ _ [_,_,_,_,_] _;iterate 5 (go_big_quiet_step ((intros; rfl)))
  refine wpQuiet_nil ?_;refine De (i:=19) Yi (of_decide_eq_true Yi) ?_;refine YE rfl rfl (wp_store_mid _ _ _ rfl g (i*7) (Zd (Fg s)) rfl rfl F3.out.1 Yo (Yy _) ?_);have D4:Hid (Zy (w3.setCells g (i*7) (Zd (Fg s)).toList) (w.heap.size+1) 24 (Zk c)):=Lib.hid (D3.out.kept (Kept.setCells _ _ _ (Kept.refl (fun k=>k=g) w3) (.inl rfl)) (fun e=>N3.out e.symm));have F4:Hid ((w3.setCells g (i*7) (Zd (Fg s)).toList).there g (j*7) 7∧((w3.setCells g (i*7) (Zd (Fg s)).toList).setCells g (j*7) (Zd (Oh s d)).toList).ownsRow 0 63 7 (.slice (some ⟨g,0,none⟩) n cp) n (XC ((l.set i (Fg s)).set j (Oh s d)))∧Kept (fun k=>k=g) w (w3.setCells g (i*7) (Zd (Fg s)).toList)):=Lib.hid (by rw [←HN.out]; exact ⟨F3.out.2.1,F3.out.2.2,Kept.setCells _ _ _ K3.out (.inl rfl)⟩);clear F3 K3 D3;generalize w3.setCells g (i*7) (Zd (Fg s)).toList=w4 at*;refine ⟨D4.out,?_⟩;simp only [Act.put,qG,qS];refine Fv (f:=1) (fun w'=>Zy w' (w.heap.size+1) 24 (Zk c)) [20] (fun _ h=>h) Yi D4.out ?_;simp only [qF,qH];show wpQuiet _ _ _ _ [_] _;iterate 1 (go_big_quiet_step ((intros; rfl)))
  refine wpQuiet_nil ?_;refine De (i:=21) Yi (of_decide_eq_true Yi) ?_;refine YE rfl rfl (wp_store_mid _ _ _ rfl g (j*7) (Zd (Oh s d)) rfl rfl F4.out.1 Yo (Yy _) ?_);refine ⟨D4.out.kept (Kept.setCells _ _ _ (Kept.refl (fun k=>k=g) _) (.inl rfl)) (fun e=>N3.out e.symm),?_⟩;simp only [Act.put,qG,qS];refine ⟨by kernel_rfl,?_⟩;refine NoPanic.normal ?_;have Z:Hid ((w4.setCells g (j*7) (Zd (Oh s d)).toList).ownsRow 0 63 7 (.slice (some ⟨g,0,none⟩) n cp) n (XC ((l.set i (Fg s)).set j (Oh s d)))∧Kept (fun k=>k=g) w (w4.setCells g (j*7) (Zd (Oh s d)).toList)):=Lib.hid ⟨F4.out.2.1,Kept.setCells _ _ _ F4.out.2.2 (.inl rfl)⟩;generalize w4.setCells g (j*7) (Zd (Oh s d)).toList=w5 at*;go_wp2_with fail;go_ret;exact ⟨rfl,Z.out⟩) :G:=h
theorem sU {G:Prop} (h:G:=by
  rw [Zc6 (v:= { v with bal:=v.bal - penQ v c}) h1 h2 h3] at h;simp at h) :G:=h
theorem sV {G:Prop} (h:G:=by
  rw [Zc4 (v:= { v with bal:=v.bal - penQ v c}) h1 h2] at h;simp at h) :G:=h
theorem sY {G:Prop} (h:G:=by
  rw [Zc7 (v:= { v with bal:=v.bal - penQ v c}) h1] at h;simp at h) :G:=h
section
open Go Go.RowKit Go.Deep
theorem Ti {P:Program}{fn:Func}{p q u:Tmp}{ty:TypeId}(h:fn.results= #[.cell p ty,.cell q ty,.tmp u])(tmps:Array Zo)(w:Zc)(g g2:Nat)(t:TypeId)(cs cs2:Array Zo)(fr fr2:Nat × Nat)(d:TypeDesc)
  (hp:tmps.getD p K8= .pointer (some ⟨g,0,none⟩)) (hq:tmps.getD q K8= .pointer (some ⟨g2,0,none⟩)) (hg:w.heap[g]?=some (.cells cs t fr)) (Wg:w.heap[g2]?=some (.cells cs2 t fr2))
  (hu:P.underlying ty=some d) (hd:(match d with | .struct _ | .array _ _=>true | _=>false)=true) (hi:(P.info? ty).map (·.size)=some cs.size) (Uq:(P.info? ty).map (·.size)=some cs2.size) :
  (results fn tmps).run P w= .ok (.tuple #[.agg cs,.agg cs2,tmps.getD u K8]) w:=by
 have e:(results fn tmps).run P w=((asAddr (tmps.getD p K8)).run P w).andThen fun a w₁=>((loadVar ty a).run P w₁).andThen fun v w₂=>((asAddr (tmps.getD q K8)).run P w₂).andThen fun a2 w₃=>((loadVar ty a2).run P w₃).andThen fun v2 w₄=> .ok (.tuple #[v,v2,tmps.getD u K8]) w₄:=by
  simp only [results,h];simp [Sem.run_bind,Xd]
 rw [e,hp,hq];simp [asAddr,run_loadVar_row w g t ty cs fr d hg hu hd hi,run_loadVar_row w g2 t ty cs2 fr2 d Wg hu hd Uq,Xd]
def Fiv (w W:Zc)(s d:Yd)(c:Nat→Int) :Prop:=
 dD w W s d c∧Zy W (w.heap.size+3) 63 (Zd Z9)∧Zy W (w.heap.size+4) 63 (Zd Z9)
section
variable {w W W':Zc} {s d:Yd} {c:Nat→Int}
theorem Fiv.new (w:Zc)(s d:Yd)(c:Nat→Int) :Fiv w (((((w.alloc (.cells (Zd s) 63)).alloc (.cells (Zd d) 63)).alloc (.cells (Zk c) 24)).alloc (.cells (Zd Z9) 63)).alloc (.cells (Zd Z9) 63)) s d c:=by
 have h:=dD.new w s d c;have hs:(((w.alloc (.cells (Zd s) 63)).alloc (.cells (Zd d) 63)).alloc (.cells (Zk c) 24)).heap.size=w.heap.size+3:=by simp
 generalize ((w.alloc (.cells (Zd s) 63)).alloc (.cells (Zd d) 63)).alloc (.cells (Zk c) 24)=W at*;refine ⟨h.next (((Zr _ _).alloc (Zg _) _).alloc ZO _),?_,?_⟩
 ·have:=YF (Zw W 63 (Zd Z9)) (.cells (Zd Z9) 63);rwa [hs] at this
 ·have:=Ea W (.cells (Zd Z9) 63) (Zd Z9) 63;rwa [hs] at this
theorem Fiv.next (h:Fiv w W s d c)(hb:Zt W.heap.size W W') :Fiv w W' s d c:=⟨h.1.next hb,h.2.1.below hb h.2.1.lt,h.2.2.below hb h.2.2.lt⟩
end
theorem oD (s d:Yd)(c:Nat→Int)(w:Zc)(hs:Yq s)(hd:Yq d)(hn:DQ s d (c 6)=0) :
  Zi Zb 317 #[.agg (Zd s),.agg (Zd d),.agg (Zk c)] w fun e w'=>e= .returned (.tuple #[.agg (Zd (Fg s)),.agg (Zd (Oh s d)),.int .i64 0])∧Zt w.heap.size w w':=by
 have HT:=Za (Fiv.new w s d c);have HC:=Za (fun w=>Nk s d c w hs hd);rw [hn] at HC;have hk:=Se hn;obtain ⟨t,ht⟩ : ∃t,d.bal+s.bal=t:=⟨_,rfl⟩;have hw:IntKind.u64.wrap (d.bal+s.bal)=t:=by
  have h1:=hs.bal;have h2:=hd.bal;exact ZgN
 have E:Hid (Zd (Oh s d)=(Zd d).setIfInBounds 0 (.int .u64 t)):=Za (by rw [←ht]; rfl);have E2:Hid (Zd (Fg s)=((Zd s).setIfInBounds 0 (.int .u64 0)).setIfInBounds 1 (.int .i64 7)):=Za rfl;clear hs hd hn hk ht;go_enter Tryz.func317,Tryz.ntmps317;go_upto_region 1 with (fail);simp only [GM];generalize ((((w.alloc (.cells (Zd s) 63)).alloc (.cells (Zd d) 63)).alloc (.cells (Zk c) 24)).alloc (.cells (Zd Z9) 63)).alloc (.cells (Zd Z9) 63)=W at*;go_wp2_with (first | (refine Zn rfl 63 _ rfl w.heap.size rfl 63 _ (0,0) _ HT.out.1.1 Zs rfl Yo ?_) | (refine Zn rfl 63 _ rfl (w.heap.size+1) rfl 63 _ (0,0) _ HT.out.1.2.1 Zs rfl Yo ?_) | (refine Zn rfl 24 _ rfl (w.heap.size+2) rfl 24 _ (0,0) _ HT.out.1.2.2.1 ZC rfl Xn ?_));refine (HC.out _).mono ?_;rintro e w1 ⟨rfl,b1⟩;have T1:=Za (HT.out.next b1);clear HT b1 HC;have f0:=T1.out.1.1.frozen 0;have f1:=T1.out.1.1.frozen 1;have g0:=T1.out.1.2.1.frozen 0;have x0:w1.cell? ⟨w.heap.size,0,none⟩=some (.int .u64 s.bal):=T1.out.1.1.cell 0;have y0:w1.cell? ⟨w.heap.size+1,0,none⟩=some (.int .u64 d.bal):=T1.out.1.2.1.cell 0;have x1:w1.cell? ⟨w.heap.size,1,none⟩=some (.int .i64 s.st):=T1.out.1.1.cell 1;go_upto_region 7 with (fail);have Z:Hid (Zy (((w1.setCell ⟨w.heap.size+1,0,none⟩ (.int .u64 t)).setCell ⟨w.heap.size,0,none⟩ (.int .u64 0)).setCell ⟨w.heap.size,1,none⟩ (.int .i64 7)) w.heap.size 63 (Zd (Fg s))∧Zy (((w1.setCell ⟨w.heap.size+1,0,none⟩ (.int .u64 t)).setCell ⟨w.heap.size,0,none⟩ (.int .u64 0)).setCell ⟨w.heap.size,1,none⟩ (.int .i64 7)) (w.heap.size+1) 63 (Zd (Oh s d))∧
   Zy (((w1.setCell ⟨w.heap.size+1,0,none⟩ (.int .u64 t)).setCell ⟨w.heap.size,0,none⟩ (.int .u64 0)).setCell ⟨w.heap.size,1,none⟩ (.int .i64 7)) (w.heap.size+3) 63 (Zd Z9)∧Zy (((w1.setCell ⟨w.heap.size+1,0,none⟩ (.int .u64 t)).setCell ⟨w.heap.size,0,none⟩ (.int .u64 0)).setCell ⟨w.heap.size,1,none⟩ (.int .i64 7)) (w.heap.size+4) 63 (Zd Z9)∧
   Zt w.heap.size w (((w1.setCell ⟨w.heap.size+1,0,none⟩ (.int .u64 t)).setCell ⟨w.heap.size,0,none⟩ (.int .u64 0)).setCell ⟨w.heap.size,1,none⟩ (.int .i64 7))):=by
  obtain ⟨⟨h1,h2,-,h3⟩,h4,h5⟩:=T1.out;refine Za ⟨?_,?_,?_,?_,?_⟩
  ·rw [E2.out];exact ((h1.far ZO _).set_ 0 _).set_ 1 _
  ·rw [E.out];exact ((h2.set_ 0 _).far ZO _).far ZO _
  ·exact ((h4.far ZO _).far ZO _).far ZO _
  ·exact ((h5.far ZO _).far ZO _).far ZO _
  ·exact ((h3.setCell ZO _).setCell ZO _).setCell ZO _
 generalize ((w1.setCell ⟨w.heap.size+1,0,none⟩ (.int .u64 t)).setCell ⟨w.heap.size,0,none⟩ (.int .u64 0)).setCell ⟨w.heap.size,1,none⟩ (.int .i64 7)=w3 at*;clear T1 x0 x1 y0 f0 f1 g0 E E2 hw;have R3:Hid (Zy w3.drew (w.heap.size+3) 63 (Zd Z9)):=Za Z.out.2.2.1;have R4:Hid (Zy (w3.drew.setRow (w.heap.size+3) (Zd (Fg s))) (w.heap.size+4) 63 (Zd Z9)):=Za ((VO _ _ _ _ Ze).trans Z.out.2.2.2.1);have S3:Hid (Zy (w3.drew.setRow (w.heap.size+3) (Zd (Fg s))) w.heap.size 63 (Zd (Fg s))∧Zy (w3.drew.setRow (w.heap.size+3) (Zd (Fg s))) (w.heap.size+1) 63 (Zd (Oh s d))):=Za ⟨(VO _ _ _ _ Ze).trans Z.out.1,(VO _ _ _ _ Ze).trans Z.out.2.1⟩;have B3:Hid (Zt w.heap.size w w3.drew):=Za Z.out.2.2.2.2.drew;refine MZ (fun w'=>Zy w' w.heap.size 63 (Zd (Fg s))∧Zy w' (w.heap.size+1) 63 (Zd (Oh s d))) 3 1 [0,1] ⟨Z.out.1,Z.out.2.1⟩ ?_;simp only [qF,qH];show wpQuiet _ _ _ _ [_,_] _;refine JG 63 _ w.heap.size 0 (Fg s) _ rfl rfl rfl (fun w' h=>h.1.range) Zs rfl Yo ?_;simp only [qB];refine JG 63 _ (w.heap.size+1) 0 (Oh s d) _ rfl rfl rfl (fun w' h=>h.2.range) Zs rfl Yo ?_;simp only [qB];refine Zj ?_;clear Z;generalize w3.drew=w4 at*;refine Qt (i:=2) ?_;refine YE rfl rfl (wp_store_row _ _ _ rfl (w.heap.size+3) (Zd (Fg s)) rfl rfl 63 _ R3.out Yo rfl (Yy _) ?_);refine ⟨S3.out,?_⟩;show YH _ _ _ _ _=true∧_;refine ⟨by kernel_rfl,?_⟩;simp only [qA];go_wp2_with (first | (refine Zm rfl _ _ _ rfl (w.heap.size+4) (Zd (Oh s d)) rfl rfl 63 _ R4.out Yo rfl (Yy _) ?_));refine ZH ?_;go_wp2_with fail;exact bodyPost_ret (v:= .tuple #[.agg (Zd (Fg s)),.agg (Zd (Oh s d)),.int .i64 0]) (Ti (fn:=Tryz.f317) rfl _ _ (w.heap.size+3) (w.heap.size+4) 63 _ _ (0,0) (0,0) _ rfl rfl ((VO _ _ _ _ Ze).trans (Yc _ _ _ _ _ _ R3.out)) (Yc _ _ _ _ _ _ R4.out) Zs rfl Yo Yo) rfl ⟨rfl,Xx (Xx B3.out Ze _) Ze _⟩
end
section
open Go Go.RowKit Go.Deep
def inB (p:Int × Int)(n:Nat) :Bool:=decide (0≤p.1∧0≤p.2∧p.1 < n∧p.2 < n)
theorem MY (p:Int × Int)(n:Nat)(w:Zc) :
  Zi Zb 197 #[.agg (cellsP p),.int .i64 n] w fun e w'=>e= .returned (.bool (inB p n))∧Zt w.heap.size w w':=by
 have hB:Zy (w.alloc (.cells (cellsP p) 281)) w.heap.size 281 (cellsP p):=Zw _ _ _;have x0:(w.alloc (.cells (cellsP p) 281)).cell? ⟨w.heap.size,0,none⟩=some (.int .i64 p.1):=hB.cell 0;have x1:(w.alloc (.cells (cellsP p) 281)).cell? ⟨w.heap.size,1,none⟩=some (.int .i64 p.2):=hB.cell 1;have B:=Za (show Zt w.heap.size w (w.alloc (.cells (cellsP p) 281)) from (Zr _ _).alloc (Zg _) _);clear hB;obtain ⟨p1,p2⟩:=p;simp only at x0 x1;go_enter Tryz.func197,Tryz.ntmps197;go_upto_region 1 with (fail);generalize w.alloc (.cells (cellsP (p1,p2)) 281)=W at*;go_wp2
 ·rename_i h
  go_ret;exact ⟨JR (decide_eq_decide.2 (by show max p1 p2 < (n:Int) ↔ (0≤p1∧0≤p2∧p1 < n∧p2 < n); omega)),B.out⟩
 ·rename_i h
  go_ret;exact ⟨JR (decide_eq_false (by show ¬(0≤p1∧0≤p2∧p1 < (n:Int)∧p2 < (n:Int)); omega)).symm,B.out⟩
theorem NL (p:Int × Int)(w:Zc) :
  Zi Zb 198 #[.agg (cellsP p)] w fun e w'=>e= .returned (.agg (cellsP (p.2,p.1)))∧Zt w.heap.size w w':=by
 have hB:Zy ((w.alloc (.cells (cellsP p) 281)).alloc (.cells (cellsP (0,0)) 281)) w.heap.size 281 (cellsP p):=YF (Zw _ _ _) _;have x0:((w.alloc (.cells (cellsP p) 281)).alloc (.cells (cellsP (0,0)) 281)).cell? ⟨w.heap.size,0,none⟩=some (.int .i64 p.1):=hB.cell 0;have x1:((w.alloc (.cells (cellsP p) 281)).alloc (.cells (cellsP (0,0)) 281)).cell? ⟨w.heap.size,1,none⟩=some (.int .i64 p.2):=hB.cell 1;have hz:(#[.int .i64 0,.int .i64 0] :Array Zo)=cellsP (0,0):=rfl;have Z:=Za (Ea w (.cells (cellsP p) 281) (cellsP (0,0)) 281);have B:=Za (show Zt w.heap.size w ((w.alloc (.cells (cellsP p) 281)).alloc (.cells (cellsP (0,0)) 281)) from ((Zr _ _).alloc (Zg _) _).alloc ZO _);clear hB;go_enter Tryz.func198,Tryz.ntmps198;go_upto_region 1 with (fail);generalize (w.alloc (.cells (cellsP p) 281)).alloc (.cells (cellsP (0,0)) 281)=W at*;clear hz;go_wp2_with (first | (refine J1 rfl 281 _ rfl Yi ?_; rw [show (Tryz.prog.built 281 _).getD #[]=cellsP (p.2,p.1) from by kernel_rfl]) | (refine Zm rfl _ _ _ rfl (w.heap.size+1) (cellsP (p.2,p.1)) rfl rfl 281 _ Z.out FU rfl (Um _) ?_));exact bodyPost_ret (v:= .agg (cellsP (p.2,p.1))) (results_cell_row (fn:=Tryz.f198) rfl _ _ (w.heap.size+1) 281 _ (0,0) _ rfl (Yc _ _ _ _ _ _ Z.out) QY rfl FU) rfl ⟨rfl,Xx B.out Ze _⟩
def I9 (w W:Zc)(p:Int × Int)(c:Nat→Int) :Prop:=
 Zy W w.heap.size 24 (Zk c)∧Zy W (w.heap.size+1) 281 (cellsP p)∧Zt w.heap.size w W
theorem I9.new (w:Zc)(p:Int × Int)(c:Nat→Int) :I9 w ((w.alloc (.cells (Zk c) 24)).alloc (.cells (cellsP p) 281)) p c:=
 ⟨YF (Zw w _ _) _,Ea w _ _ _,((Zr _ _).alloc (Zg _) _).alloc ZO _⟩
theorem I9.next {w W W':Zc}{p:Int × Int}{c:Nat→Int}(h:I9 w W p c)(hb:Zt W.heap.size W W') :I9 w W' p c:=
 ⟨h.1.below hb h.1.lt,h.2.1.below hb h.2.1.lt,h.2.2.trans (hb.mono h.2.2.size)⟩
theorem xB (a:Option Addr)(n cp:Nat)(p1 p2:Int)(c:Nat→Int)(w:Zc)(h:inB (p1,p2) n=false) :
  Zi Zb 130 #[.slice a n cp,.int .i64 p1,.int .i64 p2,.agg (Zk c)] w fun e w'=>e= .returned (.int .i64 7)∧Zt w.heap.size w w':=by
 have HW:=Za (MY (p1,p2) n);have T:=Za (I9.new w (p1,p2) c);rw [h] at HW;clear h;go_enter Tryz.func130,Tryz.ntmps130;go_upto_region 2 with (first | (refine J1 rfl 281 _ rfl Yi ?_; rw [show (Tryz.prog.built 281 _).getD #[]=cellsP (p1,p2) from by kernel_rfl]) | (refine Zm rfl _ _ _ rfl (w.heap.size+1) (cellsP (p1,p2)) rfl rfl 281 _ (Ea w _ _ _) FU rfl (Um _) ?_; rw [Es]));generalize (w.alloc (.cells (Zk c) 24)).alloc (.cells (cellsP (p1,p2)) 281)=W at*;go_wp2_with (first | (refine Zn rfl 281 _ rfl (w.heap.size+1) rfl 281 _ (0,0) _ T.out.2.1 QY rfl FU ?_));refine (HW.out _).mono ?_;rintro e w1 ⟨rfl,b1⟩;have T1:=Za (T.out.next b1);clear b1 T HW;go_wp2_with fail;go_ret;exact ⟨rfl,T1.out.2.2⟩
theorem rQ (a:Option Addr)(n cp:Nat)(p1 p2:Int)(c:Nat→Int)(w:Zc)(h:inB (p1,p2) n=true)(he:p1=p2) :
  Zi Zb 130 #[.slice a n cp,.int .i64 p1,.int .i64 p2,.agg (Zk c)] w fun e w'=>e= .returned (.int .i64 12)∧Zt w.heap.size w w':=by
 have HW:=Za (MY (p1,p2) n);have T:=Za (I9.new w (p1,p2) c);have HE:Hid (decide ((p1,p2)=(p2,p1))=true):=Za (decide_eq_true (by rw [he]));rw [h] at HW;clear h he;go_enter Tryz.func130,Tryz.ntmps130;go_upto_region 2 with (first | (refine J1 rfl 281 _ rfl Yi ?_; rw [show (Tryz.prog.built 281 _).getD #[]=cellsP (p1,p2) from by kernel_rfl]) | (refine Zm rfl _ _ _ rfl (w.heap.size+1) (cellsP (p1,p2)) rfl rfl 281 _ (Ea w _ _ _) FU rfl (Um _) ?_; rw [Es]));generalize (w.alloc (.cells (Zk c) 24)).alloc (.cells (cellsP (p1,p2)) 281)=W at*;go_wp2_with (first | (refine Zn rfl 281 _ rfl (w.heap.size+1) rfl 281 _ (0,0) _ T.out.2.1 QY rfl FU ?_));refine (HW.out _).mono ?_;rintro e w1 ⟨rfl,b1⟩;have T1:=Za (T.out.next b1);clear b1 T HW;go_wp2_with fail;refine XO (fun w'=>Zt w1.heap.size w1 w') Yi Yi (Zr _ _).drew ?_;refine Qg 281 _ (w.heap.size+1) 281 (cellsP (p1,p2)) _ rfl rfl rfl (fun w' h=>T1.out.2.1.below h T1.out.2.1.lt) QY rfl FU ?_;simp only [qB];refine Qg 281 _ (w.heap.size+1) 281 (cellsP (p1,p2)) _ rfl rfl rfl (fun w' h=>T1.out.2.1.below h T1.out.2.1.lt) QY rfl FU ?_;simp only [qB];refine OH (.agg (cellsP (p2,p1))) #[.agg (cellsP (p1,p2))] Yi Yi Tryz.call198 (fun w' h=>(NL (p1,p2) w').mono fun e w'' ⟨he,hb⟩=>⟨he,h.trans (hb.mono h.size)⟩) ?_;simp only [qB];refine GU (.bool true) rfl (fun w=>aX rfl rfl HE.out) ?_;simp only [qB];refine Zj ?_;intro w2 b2;have T2:=Za (T1.out.next b2);clear b2 T1;go_wp2;go_ret;exact ⟨rfl,T2.out.2.2⟩
theorem xA (S:Nat→Prop)(a:Option Addr)(l:List Yd)(cp i j:Nat)(s d:Yd)(c:Nat→Int)(w:Zc)(hL:Dj w S a l)(hi:l[i]?=some s)(hj:l[j]?=some d)(Kt:i≠j)(hs:Yq s)(hd:Yq d) :
  Zi Zb 130 #[.slice a l.length cp,.int .i64 i,.int .i64 j,.agg (Zk c)] w fun e w'=>e= .returned (.int .i64 (DQ s d (c 6)))∧Zt w.heap.size w w':=by
 have EB:=(Zh.1 hi).1;have Df:=(Zh.1 hj).1;obtain ⟨p1,hp1⟩ : ∃p1:Int,(i:Int)=p1:=⟨_,rfl⟩;obtain ⟨p2,lV⟩ : ∃p2:Int,(j:Int)=p2:=⟨_,rfl⟩;obtain ⟨n,hn⟩ : ∃n,l.length=n:=⟨_,rfl⟩;have h:inB ((i:Int),(j:Int)) n=true:=decide_eq_true Ef;have HE:Hid (decide (((i:Int),(j:Int))=((j:Int),(i:Int)))=false):=Za (decide_eq_false (by simp only [Prod.mk.injEq]; omega));rw [hp1,lV] at h HE ⊢;rw [hn] at EB Df ⊢;have HW:=Za (MY (p1,p2) n);have T:=Za (I9.new w (p1,p2) c);rw [h] at HW;have HC:=Za (fun w=>Nk s d c w hs hd);generalize DQ s d (c 6)=r at*;obtain ⟨g,off,rfl,rs⟩:=hL.at hi;obtain ⟨g',ZfS,e',rd⟩:=hL.at hj;injection e' with e';injection e' with e1 e2 e3;subst e1 e2;have hg:g < w.heap.size:=by
  obtain ⟨b,o,e1,-,e2,-⟩:=hL Ze;injection e1 with e1;injection e1 with e1;omega
 have RS:=Za (Zl rs (Zl rd hg));have HP:=Za (Zl hp1 lV);clear rs rd hL hi hj hs hd h e3 hn hp1 lV;go_enter Tryz.func130,Tryz.ntmps130;go_upto_region 2 with (first | (refine J1 rfl 281 _ rfl Yi ?_; rw [show (Tryz.prog.built 281 _).getD #[]=cellsP (p1,p2) from by kernel_rfl]) | (refine Zm rfl _ _ _ rfl (w.heap.size+1) (cellsP (p1,p2)) rfl rfl 281 _ (Ea w _ _ _) FU rfl (Um _) ?_; rw [Es]));generalize (w.alloc (.cells (Zk c) 24)).alloc (.cells (cellsP (p1,p2)) 281)=W at*;go_wp2_with (first | (refine Zn rfl 281 _ rfl (w.heap.size+1) rfl 281 _ (0,0) _ T.out.2.1 QY rfl FU ?_));refine (HW.out _).mono ?_;rintro e w1 ⟨rfl,b1⟩;have T1:=Za (T.out.next b1);clear b1 T HW;go_wp2_with fail;refine XO (fun w'=>Zt w1.heap.size w1 w') Yi Yi (Zr _ _).drew ?_;refine Qg 281 _ (w.heap.size+1) 281 (cellsP (p1,p2)) _ rfl rfl rfl (fun w' h=>T1.out.2.1.below h T1.out.2.1.lt) QY rfl FU ?_;simp only [qB];refine Qg 281 _ (w.heap.size+1) 281 (cellsP (p1,p2)) _ rfl rfl rfl (fun w' h=>T1.out.2.1.below h T1.out.2.1.lt) QY rfl FU ?_;simp only [qB];refine OH (.agg (cellsP (p2,p1))) #[.agg (cellsP (p1,p2))] Yi Yi Tryz.call198 (fun w' h=>(NL (p1,p2) w').mono fun e w'' ⟨he,hb⟩=>⟨he,h.trans (hb.mono h.size)⟩) ?_;simp only [qB];refine GU (.bool false) rfl (fun w=>aX rfl rfl HE.out) ?_;simp only [qB];refine Zj ?_;intro w2 b2;have T2:=Za (T1.out.next b2);clear b2 T1;have RS2:Hid (w2.rangeAt g (off+i*7) s.row∧w2.rangeAt g (off+j*7) d.row):=Za ⟨QZ RS.out.1 (T2.out.2.2.block g RS.out.2.2),QZ RS.out.2.1 (T2.out.2.2.block g RS.out.2.2)⟩;obtain ⟨rfl,rfl⟩:=HP.out;have g2:g < w2.heap.size:=Yp RS.out.2.2 T2.out.2.2.size;have k1: ¬(i:Int)< 0:=by omega
 have k2: ¬(n:Int)≤(i:Int):=by omega
 have k3:(i:Int)< (n:Int):=by omega
 have m1: ¬(j:Int)< 0:=by omega
 have m2: ¬(n:Int)≤(j:Int):=by omega
 have m3:(j:Int)< (n:Int):=by omega
 go_wp2;refine XO (fun w'=>Zt w2.heap.size w2 w') Yi Yi (Zr _ _).drew ?_;iterate 3 (go_big_quiet_step ((intros; rfl)))
 refine JG 63 _ g (off+i*7) s _ rfl rfl rfl (fun w' h=>QZ RS2.out.1 (h.block g g2)) Zs rfl Yo ?_;simp only [qB];iterate 3 (go_big_quiet_step ((intros; rfl)))
 refine JG 63 _ g (off+j*7) d _ rfl rfl rfl (fun w' h=>QZ RS2.out.2 (h.block g g2)) Zs rfl Yo ?_;simp only [qB];refine Qg 24 _ w.heap.size 24 (Zk c) _ rfl rfl rfl (fun w' h=>T2.out.1.below h T2.out.1.lt) ZC rfl Xn ?_;simp only [qB];refine OH (.int .i64 r) #[.agg (Zd s),.agg (Zd d),.agg (Zk c)] Yi Yi Tryz.call199 (fun w' h=>(HC.out w').mono fun e w'' ⟨he,hb⟩=>⟨he,h.trans (hb.mono h.size)⟩) ?_;simp only [qB];go_big_quiet_step ((intros; rfl));refine Zj ?_;intro w3 b3;have B3:=Za (T2.out.2.2.trans (b3.mono T2.out.2.2.size));go_wp2;go_ret;exact ⟨rfl,B3.out⟩
theorem DG (S:Nat→Prop)(a:Option Addr)(l:List Yd)(cp:Nat)(p:Int × Int)(c:Nat→Int)(w:Zc)(hL:Dj w S a l)(hf: ∀v ∈ l,Yq v) :
  Zi Zb 130 #[.slice a l.length cp,.int .i64 p.1,.int .i64 p.2,.agg (Zk c)] w fun e w'=>e= .returned (.int .i64 (Db l p (c 6)))∧Zt w.heap.size w w':=by
 obtain ⟨p1,p2⟩:=p
 by_cases h:0≤p1∧0≤p2∧p1 < l.length∧p2 < l.length
 ·obtain ⟨i,rfl⟩:=Int.eq_ofNat_of_zero_le h.1;obtain ⟨j,rfl⟩:=Int.eq_ofNat_of_zero_le h.2.1;obtain ⟨s,hs⟩ : ∃s,l[i]?=some s:=⟨_,Zf Ze⟩;obtain ⟨d,hd⟩ : ∃d,l[j]?=some d:=⟨_,Zf Ze⟩;rw [rO (c 6) hs hd]
  by_cases he:i=j
  ·rw [if_pos he];exact rQ a l.length cp i j c w (decide_eq_true h) Ze
  ·rw [if_neg he];exact xA S a l cp i j s d c w hL hs hd he (hf s (ZE hs)) (hf d (ZE hd))
 ·have e:Db l (p1,p2) (c 6)=7:=by
   unfold Db;rw [if_pos Ef]
  rw [e];exact xB a l.length cp p1 p2 c w (decide_eq_false h)
end
section
open Go Go.RowKit Go.Deep
def Cg (w W:Zc)(p:Int × Int)(c:Nat→Int) :Prop:=
 Zy W w.heap.size 281 (cellsP p)∧Zy W (w.heap.size+1) 24 (Zk c)∧Zt w.heap.size w W
theorem Cg.new (w:Zc)(p:Int × Int)(c:Nat→Int) :Cg w ((w.alloc (.cells (cellsP p) 281)).alloc (.cells (Zk c) 24)) p c:=
 ⟨YF (Zw w _ _) _,Ea w _ _ _,((Zr _ _).alloc (Zg _) _).alloc ZO _⟩
theorem Cg.next {w W W':Zc}{p:Int × Int}{c:Nat→Int}(h:Cg w W p c)(hb:Zt W.heap.size W W') :Cg w W' p c:=
 ⟨h.1.below hb h.1.lt,h.2.1.below hb h.2.1.lt,h.2.2.trans (hb.mono h.2.2.size)⟩
theorem fY (S:Nat→Prop)(a:Option Addr)(l:List Yd)(cp:Nat)(p:Int × Int)(c:Nat→Int)(w:Zc)(hL:Dj w S a l)(hf: ∀v ∈ l,Yq v)(h:Db l p (c 6)≠0) :
  Zi Zb 299 #[.agg (cellsP p),.slice a l.length cp,.agg (Zk c)] w fun e w'=>e= .returned (.bool false)∧Zt w.heap.size w w':=by
 have T:=Za (Cg.new w p c);have HR:=Za (fun w (hL:Dj w S a l)=>DG S a l cp p c w hL hf);have HL:=Za (show Dj ((w.alloc (.cells (cellsP p) 281)).alloc (.cells (Zk c) 24)) S a l from hL.below T.out.2.2);generalize Db l p (c 6)=r at*;have q:(r != 0)=true:=by simpa using h
 obtain ⟨n,hn⟩ : ∃n,l.length=n:=⟨_,rfl⟩;rw [hn] at HR ⊢;obtain ⟨p1,p2⟩:=p;simp only at HR;clear hL hf h hn;go_enter Tryz.func299,Tryz.ntmps299;go_upto_region 1 with (fail);generalize (w.alloc (.cells (cellsP (p1,p2)) 281)).alloc (.cells (Zk c) 24)=W at*;have x0:W.cell? ⟨w.heap.size,0,none⟩=some (.int .i64 p1):=T.out.1.cell 0;have x1:W.cell? ⟨w.heap.size,1,none⟩=some (.int .i64 p2):=T.out.1.cell 1;go_quiet (fail);have T1:Hid (Cg w (W.drewN nq) (p1,p2) c):=Za ⟨T.out.1,T.out.2.1,below_drewN T.out.2.2 nq⟩;have ky:Hid (Dj (W.drewN nq) S a l):=Za HL.out;clear T HL x0 x1;generalize W.drewN nq=w1 at*;go_wp2_with (first | (refine Zn rfl 24 _ rfl (w.heap.size+1) rfl 24 _ (0,0) _ T1.out.2.1 ZC rfl Xn ?_));refine (HR.out _ ky.out).mono ?_;rintro e w2 ⟨rfl,b2⟩;have B2:=Za (T1.out.2.2.trans (b2.mono T1.out.2.2.size));clear b2;go_wp2_with fail;go_ret;exact ⟨rfl,B2.out⟩
theorem owns_move {w:Zc}{g cp i j:Nat}{l:List Yd}{s d:Yd}(h:w.ownsRow 0 63 7 (.slice (some ⟨g,0,none⟩) l.length cp) l.length (XC l))(hi:l[i]?=some s)(hj:l[j]?=some d)(Kt:i≠j)(x y:Yd) :
  w.there g (i*7) 7∧(w.setCells g (i*7) x.row).there g (j*7) 7∧((w.setCells g (i*7) x.row).setCells g (j*7) y.row).ownsRow 0 63 7 (.slice (some ⟨g,0,none⟩) l.length cp) l.length (XC ((l.set i x).set j y)):=by
 obtain ⟨h1,h2⟩:=NG h hi x;have e:(l.set i x).length=l.length:=List.length_set;rw [←e] at h1;have Pe:(l.set i x)[j]?=some d:=by exact kt
 obtain ⟨h3,h4⟩:=NG h1 Pe y;rw [e] at h3;exact ⟨h2,h4,h3⟩
theorem fZ (g:Nat)(l:List Yd)(cp i j:Nat)(s d:Yd)(c:Nat→Int)(w:Zc)(hO:w.ownsRow 0 63 7 (.slice (some ⟨g,0,none⟩) l.length cp) l.length (XC l))(hf: ∀v ∈ l,Yq v)
  (hi:l[i]?=some s) (hj:l[j]?=some d) (Kt:i≠j) (hk:DQ s d (c 6)=0) :
  Zi Zb 299 #[.agg (cellsP ((i:Int),(j:Int))),.slice (some ⟨g,0,none⟩) l.length cp,.agg (Zk c)] w fun e w'=>e= .returned (.bool true)∧
   w'.ownsRow 0 63 7 (.slice (some ⟨g,0,none⟩) l.length cp) l.length (XC ((l.set i (Fg s)).set j (Oh s d)))∧Kept (fun k=>k=g) w w':=by
 have hgw:g < w.heap.size:=(hO.lt g rfl).2;have T:=Za (Cg.new w ((i:Int),(j:Int)) c);have HR:=Za (fun w (hL:Dj w (fun _=>False) (some ⟨g,0,none⟩) l)=>DG (fun _=>False) (some ⟨g,0,none⟩) l cp ((i:Int),(j:Int)) c w hL hf);rw [rO (c 6) hi hj,if_neg Kt,hk] at HR;have hs:=hf s (ZE hi);have hd:=hf d (ZE hj);have HA:=Za (fun w=>oD s d c w hs hd hk);have HO:Hid (((w.alloc (.cells (cellsP ((i:Int),(j:Int))) 281)).alloc (.cells (Zk c) 24)).ownsRow 0 63 7 (.slice (some ⟨g,0,none⟩) l.length cp) l.length (XC l)):=Za (KJ hO (fun k hk=>by
  simp only [Xq,Qj] at hk;subst hk;exact T.out.2.2.block _ hgw))
 have HIJ:=Za (Zl hi (Zl hj Kt));have EB:=(Zh.1 hi).1;have Df:=(Zh.1 hj).1;obtain ⟨n,hn⟩ : ∃n,l.length=n:=⟨_,rfl⟩;have HN:=Za hn;rw [hn] at HR EB Df ⊢;simp only at HR;clear hO hi hj Kt hk hs hd hf hn;go_enter Tryz.func299,Tryz.ntmps299;go_upto_region 1 with (fail);generalize (w.alloc (.cells (cellsP ((i:Int),(j:Int))) 281)).alloc (.cells (Zk c) 24)=W at*;have x0:W.cell? ⟨w.heap.size,0,none⟩=some (.int .i64 (i:Int)):=T.out.1.cell 0;have x1:W.cell? ⟨w.heap.size,1,none⟩=some (.int .i64 (j:Int)):=T.out.1.cell 1;go_quiet (fail);have T1:Hid (Cg w (W.drewN nq) ((i:Int),(j:Int)) c):=Za ⟨T.out.1,T.out.2.1,below_drewN T.out.2.2 nq⟩;have O1:Hid ((W.drewN nq).ownsRow 0 63 7 (.slice (some ⟨g,0,none⟩) l.length cp) l.length (XC l)):=Za HO.out;clear T HO x0 x1;generalize W.drewN nq=w1 at*;go_wp2_with (first | (refine Zn rfl 24 _ rfl (w.heap.size+1) rfl 24 _ (0,0) _ T1.out.2.1 ZC rfl Xn ?_));refine (HR.out _ (DC O1.out (fun _ _ h=>h))).mono ?_;rintro e w2 ⟨rfl,b2⟩;have g1:g < w1.heap.size:=(O1.out.lt g rfl).2;have T2:=Za (T1.out.next b2);have O2:Hid (w2.ownsRow 0 63 7 (.slice (some ⟨g,0,none⟩) l.length cp) l.length (XC l)):=Za (KJ O1.out (fun k hk=>by
  simp only [Xq,Qj] at hk;subst hk;exact b2.block _ g1))
 clear b2 T1 O1 HR;go_wp2_with fail;have k1: ¬(i:Int)< 0:=by omega
 have k2: ¬(n:Int)≤(i:Int):=by omega
 have k3:(i:Int)< (n:Int):=by omega
 have m1: ¬(j:Int)< 0:=by omega
 have m2: ¬(n:Int)≤(j:Int):=by omega
 have m3:(j:Int)< (n:Int):=by omega
 have R2:Hid (w2.drew.rangeAt g (i*7) s.row∧w2.drew.rangeAt g (j*7) d.row∧Zy w2.drew (w.heap.size+1) 24 (Zk c)):=Za (by
  have hL:=DC (S:=fun _=>False) O2.out (fun _ _ h=>h);obtain ⟨b,o,e1,r1⟩:=hL.at HIJ.out.1;obtain ⟨b',o',e2,r2⟩:=hL.at HIJ.out.2.1;injection e1 with e1;injection e1 with e1 e3 _;injection e2 with e2;injection e2 with e2 e4 _;subst e1 e2 e3 e4;rw [Nat.zero_add] at r1 r2;exact ⟨r1,r2,T2.out.2.1⟩)
 have G2:Hid (g < w2.drew.heap.size):=Za (O2.out.lt g rfl).2;refine PG (fun w'=>Zy w' (w.heap.size+1) 24 (Zk c)) 11 [0,1,2,3,4,5,6,8,9,10,12] R2.out.2.2 ?_;simp only [qF,qH];show wpQuiet _ _ _ _ [_,_,_,_,_,_,_,_,_,_,_] _;iterate 10 (go_big_quiet_step ((intros; rfl)))
 refine Qg 24 _ (w.heap.size+1) 24 (Zk c) _ rfl rfl rfl (fun w' h=>h) ZC rfl Xn ?_;simp only [qB];refine Zj ?_;refine UI (i:=7) (k:=11) Yi (of_decide_eq_true Yi) (of_decide_eq_true Yi) ?_ ?_
 ·refine YE rfl rfl (wp_load_mid 63 _ rfl g (i*7) rfl s.row _ R2.out.1 Zs rfl Yo ?_);refine ⟨R2.out.2.2,?_⟩;simp only [Act.put,qG,qS];refine De (i:=11) Yi (of_decide_eq_true Yi) ?_;refine YE rfl rfl (wp_load_mid 63 _ rfl g (j*7) rfl d.row _ R2.out.2.1 Zs rfl Yo ?_);exact zT6
 ·refine YE rfl rfl (wp_load_mid 63 _ rfl g (j*7) rfl d.row _ R2.out.2.1 Zs rfl Yo ?_);refine ⟨R2.out.2.2,?_⟩;simp only [Act.put,qG,qS];refine De (i:=7) Yi (of_decide_eq_true Yi) ?_;refine YE rfl rfl (wp_load_mid 63 _ rfl g (i*7) rfl s.row _ R2.out.1 Zs rfl Yo ?_);exact zT6
theorem cD (a:Option Addr)(l:List Yd)(cp:Nat)(p:Int × Int)(c:Nat→Int)(w:Zc)(hO:w.ownsRow 0 63 7 (.slice a l.length cp) l.length (XC l))(hf: ∀v ∈ l,Yq v) :
  Zi Zb 299 #[.agg (cellsP p),.slice a l.length cp,.agg (Zk c)] w fun e w'=>e= .returned (.bool (decide (Db l p (c 6)=0)))∧
   w'.ownsRow 0 63 7 (.slice a l.length cp) l.length (XC (UO l p (c 6)))∧Kept (fun k=>(Yr a l.length cp).ownBlock=some k) w w':=by
 by_cases h:Db l p (c 6)=0
 ·rw [decide_eq_true h,show UO l p (c 6)=SR l p.1.toNat p.2.toNat from if_pos h];obtain ⟨i,j,s,d,rfl,Kt,hi,hj,hk⟩:=gw h;have EB:=(Zh.1 hi).1;simp only [SR,Int.toNat_natCast,Vg hi,Vg hj];obtain ⟨g,rfl⟩ : ∃g,a=some ⟨g,0,none⟩:=by
   exact Zap
  exact (fZ g l cp i j s d c w hO hf hi hj Kt hk).mono fun e w' ⟨he,ho,k⟩=>⟨he,ho,k.more (fun i _ e=>by subst e; rfl)⟩
 ·rw [decide_eq_false h,show UO l p (c 6)=l from if_neg h];exact (fY (fun _=>False) a l cp p c w (DC hO (fun _ _ h=>h)) hf h).mono fun e w' ⟨he,hb⟩=>⟨he,KJ hO (fun k hk=>hb.block k (hO.lt k hk).2),Kept.of_below hb⟩
end
section
open Go Go.RowKit Go.Deep
def U1 (L:List Bool) :Array Zo:=(L.map Value.bool).toArray
theorem fC (n:Nat) :madeCells #[.bool false] n=U1 (ZF n false):=by
 apply Array.ext
 ·simp [madeCells,U1]
 ·intro i h1 h2;simp [madeCells,Nat.mod_one,U1]
theorem kR: ∃i,Tryz.prog.info? 4=some i∧i.zero=some (.bool false)∧i.size=1∧i.bytes=1:=by
 have h:(Tryz.prog.info? 4).map (fun i=>(i.zero,i.size,i.bytes))=some (some (.bool false),1,1):=by kernel_rfl
 cases hi:Tryz.prog.info? 4 with
 | none=>rw [hi] at h; cases h
 | some i=>
  rw [hi] at h;simp at h;exact ⟨i,rfl,h.1,h.2.1,h.2.2⟩
theorem Ll (n:Nat)(hn:n≤100000)(w:Zc) :
  (Instr.makeSlice 177 (.int .i64 (n:Int)) (.int .i64 (n:Int))).run Zb w= .ok (.slice (some ⟨w.heap.size,0,none⟩) n n) (w.alloc (.cells (U1 (ZF n false)) 4)):=by
 obtain ⟨i,hi,hz,hs,Hu⟩:=kR;have Dt:=Q6 (P:=Zb) 177 4 i _ Tryz.underlying177 hi hz .i64 .i64 n n (Zg _) TW Ze w;rw [hs,Nat.mul_one] at Dt;have tV:(Value.bool false).cells= #[.bool false]:=rfl;rw [tV,fC] at Dt;exact Dt
theorem kU {L:List Bool}{i:Nat}(hi:i < L.length) :(U1 L)[i]?=some (.bool (L.getD i false)):=by
 rw [U1,List.getElem?_toArray,List.getElem?_map,List.getD_eq_getElem?_getD,Zf hi];rfl
theorem eh (L:List Bool)(i:Nat)(b:Bool) :(U1 L).setIfInBounds i (.bool b)=U1 (L.set i b):=by
 simp [U1,List.map_set]
def PI (w:Zc)(g:Nat)(L:List Bool) :Prop:=Zy w g 4 (U1 L)
theorem PI.cell {w:Zc}{g:Nat}{L:List Bool}(h:PI w g L){i:Nat}(hi:i < L.length) :w.cell? ⟨g,i,none⟩=some (.bool (L.getD i false)):=(Zy.cell h i).trans (kU hi)
theorem PI.frozen {w:Zc}{g:Nat}{L:List Bool}(h:PI w g L)(i:Nat) :w.frozen? ⟨g,i,none⟩=false:=Zy.frozen h i
theorem PI.set {w:Zc}{g:Nat}{L:List Bool}(h:PI w g L)(i:Nat)(b:Bool) :PI (w.setCell ⟨g,i,none⟩ (.bool b)) g (L.set i b):=by
 have:=Zy.set_ h i (.bool b);rw [eh] at this;exact this
theorem PI.below {w w':Zc}{g:Nat}{L:List Bool}(h:PI w g L)(hb:Zt w.heap.size w w') :PI w' g L:=Zy.below h hb (Zy.lt h)
end
section
open Go Go.RowKit Go.Deep
def BI (c:Nat→Int)(q:List (Int × Int)) :Nat:=min (c 17).toNat q.length
def D9 (mb:Int)(l:List Yd)(q:List (Int × Int))(k m:Nat) :List Bool:=FY mb l (q.take k)++ZF (m - k) false
theorem mU (mb:Int)(l:List Yd)(q:List (Int × Int))(m:Nat) :D9 mb l q 0 m=ZF m false:=by simp [D9,FY]
theorem r9 (mb:Int)(l:List Yd)(q:List (Int × Int)){k m:Nat}(hk:k≤m)(hm:m≤q.length) :(D9 mb l q k m).length=m:=by
 simp only [D9,List.length_append,AM,Xm,List.length_replicate];omega
theorem mT (mb:Int)(l:List Yd)(q:List (Int × Int)){k m:Nat}{p:Int × Int}(hp:q[k]?=some p)(hk:k < m)(hm:m≤q.length) :
  (D9 mb l q k m).set k (decide (Db (J8 mb l (q.take k)) p mb=0))=D9 mb l q (k+1) m:=by
 have hl:(FY mb l (q.take k)).length=k:=by rw [AM,Xm]; omega
 unfold D9;rw [List.set_append,hl,if_neg Ze,Nat.sub_self,TG hp,gM,show m - k=(m -(k+1))+1 by omega,List.replicate_succ,List.set_cons_zero];simp
theorem rZ (mb:Int)(l:List Yd)(q:List (Int × Int))(m:Nat) :D9 mb l q m m=FY mb l (q.take m):=by simp [D9]
theorem jA {w:Zc}{B n:Nat}{e:TypeId}{sz:Nat}{v:Zo}{xs:List Zo}(h:w.ownsRow 0 e sz v n xs)(hB: ∀k,v.ownBlock=some k→B≤k) :w.ownsRow B e sz v n xs:=by
 exact Zam
def RF (w wr:Zc)(v:Zo)(n g:Nat)(L:List Yd)(B:List Bool)(c:Nat→Int) :Prop:=
 wr.ownsRow (w.heap.size+1) 63 7 v n (XC L)∧PI wr g B∧v.ownBlock≠some g∧w.heap.size < g∧Zy wr w.heap.size 24 (Zk c)∧Zt w.heap.size w wr
theorem de (a b:Option Addr)(cp cq:Nat)(l:List Yd)(q:List (Int × Int))(c:Nat→Int)(w:Zc)(hL:Dj w (fun _=>False) a l)(hq:dQ w (fun _=>False) b q)(hf: ∀v ∈ l,Yq v)(h17:0≤c 17)(hl:l.length≤4096)(hql:q.length≤4096) :
  Zi Zb 264 #[.slice a l.length cp,.slice b q.length cq,.agg (Zk c)] w fun e w'=> ∃v g,e= .returned (.tuple #[v,.slice (some ⟨g,0,none⟩) (BI c q) (BI c q)])∧
   w'.ownsRow w.heap.size 63 7 v l.length (XC (J8 (c 6) l (q.take (BI c q))))∧PI w' g (FY (c 6) l (q.take (BI c q)))∧v.ownBlock≠some g∧w.heap.size≤g∧Zt w.heap.size w w':=by
 obtain ⟨m,hm⟩ : ∃m,BI c q=m:=⟨_,rfl⟩;have hmq:m≤q.length:=by rw [←hm]; exact Nat.min_le_right _ _
 have lR:min (c 17) (q.length:Int)=(m:Int):=by rw [←hm]; unfold BI; omega
 have dI:max (0:Int) (m:Int)=(m:Int):=by omega
 rw [hm];have hm60:m≤4096:=by omega
 have Dt:=fun w=>Ll m Ze w
 have hB:Zy (w.alloc (.cells (Zk c) 24)) w.heap.size 24 (Zk c):=Zw _ _ _;have b0:Zt w.heap.size w (w.alloc (.cells (Zk c) 24)):=(Zr _ _).alloc (Zg _) _;have HB:=Za (Zl hB b0);have HC:=Za (Ot (fun _=>False) a cp l (w.alloc (.cells (Zk c) 24)) (hL.below b0) Ze);have HQ:=Za hq;have HF:=Za (fun k=>TD (c 6) (q.take k) l hf);have HS:Hid ((w.alloc (.cells (Zk c) 24)).heap.size=w.heap.size+1):=Za ZO;obtain ⟨n,hn⟩ : ∃n,l.length=n:=⟨_,rfl⟩;obtain ⟨nq,wi⟩ : ∃nq,q.length=nq:=⟨_,rfl⟩;rw [hn] at HC ⊢;rw [wi] at lR hmq ⊢;have HN:=Za (Zl hn wi);clear hB b0 hL hq hf hm hn wi;go_enter Tryz.func264,Tryz.ntmps264;go_upto_region 1 with (fail);generalize w.alloc (.cells (Zk c) 24)=W at*;go_wp2_with fail;refine HC.out.mono ?_;rintro e w1 ⟨v,rfl,ho,b1⟩;have x17:w1.cell? ⟨w.heap.size,17,none⟩=some (.int .i64 (c 17)):=(HB.out.1.below b1 HB.out.1.lt).cell 17;have H1:Hid (w1.ownsRow (w.heap.size+1) 63 7 v n (XC l)∧Zy w1 w.heap.size 24 (Zk c)∧Zt w.heap.size w w1):=Za ⟨HS.out▸ho,HB.out.1.below b1 HB.out.1.lt,HB.out.2.trans (b1.mono HB.out.2.size)⟩;clear ho b1 HB HC HS;go_upto_region 3 with (fail);have A0:Hid (RF w (w1.alloc (.cells (U1 (ZF m false)) 4)) v n w1.heap.size (J8 (c 6) l (q.take 0)) (D9 (c 6) l q 0 m) c):=by
  rw [mU];refine Za ⟨World.ownsRow.alloc H1.out.1 _,Zw _ _ _,fun e=>?_,?_,H1.out.2.1.alloc _,H1.out.2.2.alloc H1.out.2.2.size _⟩
  ·have:=(H1.out.1.lt _ e).2;omega
  ·have:=H1.out.2.1.lt;exact this
 have HV:Hid (∃a' Bp,v= .slice a' n Bp∧ ∀k,v.ownBlock=some k→w.heap.size < k):=Za (by
  obtain ⟨a',Bp,e,-,-⟩:=Ut (Bw H1.out.1 (Jr _));exact ⟨a',Bp,e,fun k hk=>by have:=(H1.out.1.lt k hk).1; omega⟩)
 clear H1 x17 Dt lR dI;obtain ⟨a',Bp,hv,hvk⟩:=HV.out;have HVK:=Za hvk;clear HV hvk;subst hv;generalize w1.alloc (.cells (U1 (ZF m false)) 4)=W2 at*;generalize w1.heap.size=g at*;go_wp2;go_loopw [22] (fun s22 wr=> ∃k:Nat,k≤m∧s22= .int .i64 k∧Hid (RF w wr (.slice a' n Bp) n g (J8 (c 6) l (q.take k)) (D9 (c 6) l q k m) c)) (fun s22 _=>m -(intOf s22).toNat)
 case atStart=>exact ⟨0,by omega,rfl,A0⟩
 case round=>
  obtain ⟨k,hk,rfl,HA⟩:=hrel;clear A0
  by_cases XJ:k < m
  ·obtain ⟨p,hp⟩ : ∃p,q[k]?=some p:=⟨_,Zf ZQ⟩;obtain ⟨qb,qo,rfl,hrp⟩:=(HQ.out.below HA.out.2.2.2.2.2).at hp;have hqb:qb < w.heap.size:=by
    obtain ⟨b,off,h1,h2,h3,h4⟩:=HQ.out ZQ;injection h1 with h1;injection h1 with h1;omega
   have HP:=Za hp;have HR:=Za (Zl hrp (Zl hqb hmq));have k1: ¬(k:Int)< 0:=by omega
   have k2: ¬(nq:Int)≤(k:Int):=by omega
   have k3:(k:Int)< (nq:Int):=by omega
   have j2: ¬(m:Int)≤(k:Int):=by omega
   have j3:(k:Int)< (m:Int):=by omega
   clear hp hrp hqb;go_upto_region 6 with (fail);refine MZ (fun w'=>w'.rangeAt qb (qo+k*2) (Jv p)∧Zy w' w.heap.size 24 (Zk c)) 9 1 [0,1,2,3,4,5,6,7] ⟨HR.out.1,HA.out.2.2.2.2.1⟩ ?_;simp only [qF,qH];show wpQuiet _ _ _ _ [_,_,_,_,_,_,_,_] _;iterate 5 (go_big_quiet_step ((intros; rfl)))
   refine BG 73 _ qb (qo+k*2) p _ rfl rfl rfl (fun w' h=>h.1) Tryz.underlying73 rfl Be ?_;simp only [qB];iterate 1 (go_big_quiet_step ((intros; rfl)))
   refine Qg 24 _ w.heap.size 24 (Zk c) _ rfl rfl rfl (fun w' h=>h.2) ZC rfl Xn ?_;simp only [qB];refine Zj ?_;refine Qt (i:=8) ?_;have HL:Hid ((J8 (c 6) l (q.take k)).length=n):=Za (by rw [OP]; exact HN.out.1);have HPF:=Za (HL.out▸cD a' (J8 (c 6) l (q.take k)) Bp p c wr.drew (by rw [HL.out]; exact Bw HA.out.1 (Jr _)) (HF.out k) :Zi Zb 299 #[.agg (cellsP p),.slice a' n Bp,.agg (Zk c)] wr.drew fun e w'=>e= .returned (.bool (decide (Db (J8 (c 6) l (q.take k)) p (c 6)=0)))∧
    w'.ownsRow 0 63 7 (.slice a' n Bp) n (XC (UO (J8 (c 6) l (q.take k)) p (c 6)))∧Kept (fun i=>(Yr a' n Bp).ownBlock=some i) wr.drew w')
   refine JM #[.agg (cellsP p),.slice a' n Bp,.agg (Zk c)] Tryz.call299 (HPF.out.mono ?_);rintro e w2 ⟨rfl,ho,kp⟩;have A2:Hid (RF w w2 (.slice a' n Bp) n g (J8 (c 6) l (q.take (k+1))) (D9 (c 6) l q k m) c):=by
    obtain ⟨h1,h2,h3,h4,h5,h6⟩:=HA.out;have kp':Kept (fun i=>(Yr a' n Bp).ownBlock=some i) wr w2:=(Kept.refl _ wr).drew.trans kp (fun _ _ h=>h);rw [TG HP.out,gN];refine Za ⟨jA ho (fun i hi=>HVK.out i hi),Zy.kept h2 kp' (fun e=>h3 e),h3,h4,h5.kept kp' (fun e=>?_),Kept.below h6.drew kp (fun i hi=>Nat.le_of_lt (HVK.out i hi)) h6.size⟩;have:=HVK.out _ e;omega
   have R2:Hid (w2.rangeAt qb (qo+k*2) (Jv p)):=Za (QZ HR.out.1 (kp.block qb (Yp HR.out.2.1 HA.out.2.2.2.2.2.size) (fun e=>by
    have:=HVK.out _ e;have:=HR.out.2.1;omega)))
   clear ho kp HPF HL HA;have LB:=r9 (c 6) l q (k:=k) (m:=m) Ze (by rw [HN.out.2]; exact hmq);have z1:w2.cell? ⟨g,k,none⟩=some (.bool ((D9 (c 6) l q k m).getD k false)):=A2.out.2.1.cell Ze;have z2:w2.frozen? ⟨g,k,none⟩=false:=A2.out.2.1.frozen k;have SN:=Za (mT (c 6) l q (k:=k) (m:=m) HP.out XJ (by rw [HN.out.2]; exact hmq));clear LB;generalize decide (Db (J8 (c 6) l (q.take k)) p (c 6)=0)=r at*;refine ⟨_,rfl,⟨R2.out,A2.out.2.2.2.2.1⟩,?_⟩;show YH _ _ _ _ _=true∧_;refine ⟨by kernel_rfl,?_⟩;simp only [qA];go_wp2;refine ZH ?_;have A3:Hid (RF w (w2.setCell ⟨g,k,none⟩ (.bool r)) (.slice a' n Bp) n g (J8 (c 6) l (q.take (k+1))) (D9 (c 6) l q (k+1) m) c):=by
    obtain ⟨h1,h2,h3,h4,h5,h6⟩:=A2.out;rw [←SN.out];refine Za ⟨jA (KJ (Bw h1 (Jr _)) (fun i hi=>Below.heap_setCell w2 _ _ i (fun e=>h3 (by rw [hi]; exact congrArg some e)))) (fun i hi=>HVK.out i hi),h2.set k r,h3,h4,h5.far Ef _,h6.setCell Ef _⟩
   clear A2 z1 z2 R2;generalize w2.setCell ⟨g,k,none⟩ (.bool r)=w3 at*;go_wp2;go_roundw
   case rel=>exact ⟨k+1,by omega,by go_num,A3⟩
   case measure=>exact Uz
  ·obtain rfl:k=m:=by omega
   have HZ:Hid (RF w wr (.slice a' n Bp) n g (J8 (c 6) l (q.take k)) (FY (c 6) l (q.take k)) c):=by
    have:=HA.out;rw [rZ] at this;exact Za this
   clear HA XJ;have XJ: ¬k < k:=by omega
   go_wp2;go_ret2;obtain ⟨h1,h2,h3,h4,h5,h6⟩:=HZ.out;exact ⟨_,_,rfl,Bw h1 Ze,h2,h3,by omega,h6⟩
end
section
open Go Go.RowKit
structure I4 (c:Nat→Int) :Prop where
 ub0:0≤c 10
 ub1:c 10≤1048576
 sd0:0≤c 11
 sd1:c 11≤1048576
 num0:0≤c 18
 num1:c 18≤c 19
 den0:1≤c 19
 den1:c 19≤4294967296
theorem CK {c:Nat→Int}(hf:Wj c)(h:P6 c=0) :I4 c:=by
 rcases Oo c with ⟨_,hb⟩ | ⟨k,_,_,_,e⟩
 ·have Wd:=Vm (hb 10 Ze);have Gj:decide (c 10 < c 11∧c 11≤1048576)=true:=hb 11 Ze;have h18:decide (c 18≤c 19)=true:=hb 18 Ze;have h19:=Vm (hb 19 Ze);have f18:(Lit.int .u64 (c 18)).wf=true:=hf 18 Ze;simp at Gj h18;exact ⟨by omega,Wd.2,by omega,Gj.2,(bounds_u64 f18).1,h18,h19.1,h19.2⟩
 ·omega
def penQ (v:Yd)(c:Nat→Int) :Int:=(amQ v.bal.toNat (c 18).toNat (c 19).toNat:Nat)
def rC (v:Yd)(c:Nat→Int) :Bool:=uZ v.bal.toNat (c 18).toNat (c 19).toNat
theorem LL {v:Yd}(c:Nat→Int)(hv:Yq v) :0≤penQ v c∧penQ v c≤v.bal:=by
 have:=Zbf v.bal.toNat (c 18).toNat (c 19).toNat;have h:=hv.bal;unfold penQ;omega
theorem AA {v:Yd}{c:Nat→Int}(hv:Yq v)(hc:I4 c)(w:Zc) :
  Zi Zb 189 #[.int .u64 v.bal,.int .u64 (c 18),.int .u64 (c 19)] w fun o w'=>o= .returned (.tuple #[.int .u64 (penQ v c),.bool (rC v c)])∧Zt w.heap.size w w':=by
 have h:=dZ v.bal.toNat (c 18).toNat (c 19).toNat w (by have:=hv.bal; omega) (by have:=hc.num1; have:=hc.den1; omega) (by have:=hc.den1; omega);rw [Int.toNat_of_nonneg hv.bal.1,Int.toNat_of_nonneg hc.num0,Int.toNat_of_nonneg (show 0≤c 19 by have:=hc.den0; omega)] at h;exact h
def Hc (v:Yd)(e:Int)(c:Nat→Int) :Int × Yd:=Qn (KG v e (c 11)) { v with bal:=v.bal - penQ v c}
def tW (v:Yd)(e:Int)(c:Nat→Int) :Int:=if(Hc v e c).1=0 then penQ v c else 0
theorem mY {v:Yd}(e:Int){c:Nat→Int}(w:Zc)(hv:Yq v)(hc:I4 c) :
  Zi Zb 126 #[.agg (Zd v),.int .i64 e,.agg (Zk c)] w fun o w'=>o= .returned (RM (Hc v e c) (tW v e c))∧Zt w.heap.size w w':=by
 obtain ⟨p0,p1⟩:=LL c hv
 by_cases h:v.st=2
 ·have:=Iw v e (penQ v c) (rC v c) c w hv.2 hc.sd0 hc.sd1 p0 p1 hv.bal.2 IU (AA hv hc);rwa [show ([Vn,Qm 7,Q3 e (c 11),Xs e] :List M3)=KG v e (c 11) from (if_pos h).symm] at this
 ·have:=cY v e (penQ v c) (rC v c) c w hv.2 hc.sd0 hc.sd1 p0 p1 hv.bal.2 IU (AA hv hc);rwa [show ([Vn,Qm 7,Q3 e (c 11)] :List M3)=KG v e (c 11) from (if_neg h).symm] at this
theorem cO: ∀(es:List M3) (x:Yd),(∀e ∈ es,∀x,(e x).2.bal=x.bal)→(Qn es x).1=0→(Qn es x).2.bal=x.bal
 | [],x,_,_=>rfl
 | e::es,x,h,h0=>by
  unfold Qn at h0 ⊢
  split at h0
  ·rename_i hc
   rw [if_pos hc,cO es _ (fun e he=>h e (by simp [he])) h0];exact h e ZO x
  ·rename_i hc
   exact absurd h0 hc
theorem AK {v:Yd}(e:Int)(c:Nat→Int)(h:(Hc v e c).1=0) :(Hc v e c).2.bal+tW v e c=v.bal:=by
 have k:=cO (KG v e (c 11)) { v with bal:=v.bal - penQ v c} (fun f hf x=>by
  have hm: ∀x,(Vn x).2.bal=x.bal:=fun x=>by unfold Vn; split <;> rfl
  have hp: ∀x,(Qm 7 x).2.bal=x.bal:=fun x=>by unfold Qm; split <;> rfl
  have hh: ∀x,(Q3 e (c 11) x).2.bal=x.bal:=fun x=>by unfold Q3; split <;> rfl
  have hr: ∀x,(Xs e x).2.bal=x.bal:=fun x=>by unfold Xs; split <;> rfl
  unfold KG at hf
  split at hf
  ·simp only [Z6,Ya,or_false] at hf
   rcases hf with rfl | rfl | rfl | rfl
   ·exact hm x
   ·exact hp x
   ·exact hh x
   ·exact hr x
  ·simp only [Z6,Ya,or_false] at hf
   rcases hf with rfl | rfl | rfl
   ·exact hm x
   ·exact hp x
   ·exact hh x) h
 unfold tW Hc at*;rw [if_pos h,k];simp only;omega
theorem TB {v:Yd}{e:Int}{c:Nat→Int}(hv:Yq v)(h:(Hc v e c).1=0) :Yq (Hc v e c).2:=by
 have hb:=AK e c h;obtain ⟨p0,p1⟩:=LL c hv;have hbv:=hv.bal;have hn:tW v e c=penQ v c:=by unfold tW; rw [if_pos h]
 have hwf: ∀x:Int,0≤x→x≤18446744073709551615→(Lit.int .u64 x).wf=true:=fun x h0 h1=>by
  exact dx
 refine ⟨hwf _ Ze Ze,?_⟩;unfold Hc at*;rw [show KG v e (c 11)=KG { v with bal:=v.bal - penQ v c} e (c 11) from rfl] at h ⊢
 by_cases h1:v.sl=true
 ·exact sY
 ·have h1:v.sl=false:=by simpa using h1
  by_cases h2:Jt v.st 7=0
  ·exact sV
  ·by_cases h3:Pn e (c 11)
   ·rw [sc (v:= { v with bal:=v.bal - penQ v c}) h1 h2 h3];exact Ik v.st 7
   ·exact sU
end
end Go.Proofs.YtianiiijaopdpaaGreat
