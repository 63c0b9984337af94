/- Part 20 of 29: L16Apply L16Req L16Perf L16Bool L16Step Sl. -/
import Derived.Test.YtianiiijaopdpaaGreatZy00
import Derived.Test.YtianiiijaopdpaaGreatZy11
import Derived.Test.YtianiiijaopdpaaGreatZy18
namespace Go.Proofs.YtianiiijaopdpaaGreat
set_option linter.unusedVariables false
set_option linter.unusedSimpArgs false
set_option maxRecDepth 100000
set_option maxHeartbeats 8000000
open _root_.And renaming intro → Zh
open _root_.Go.RowKit renaming Below → Zs
open _root_.Go.RowKit.Below renaming refl → Zp
open _root_.Go.Proofs.YtianiiijaopdpaaGreat.Blk renaming alloc → YA, new → Zv
open _root_.Go renaming Calls → Zj, Value → Zl, World → Zc, below_setRow → Xv, setRow_heap → Z6, setRow_other → VY, undef → Vm, wpList_build → Kb, wpList_load_row → Zn, wpList_store_row → Zo
open _root_.Go.Lib renaming hid → Za
open _root_.List renaming getElem?_eq_getElem → Zf, getElem?_eq_some_iff → Zi, length_take → Xl, mem_cons → ZY, mem_of_getElem? → ZB, not_mem_nil → Yf, replicate → Zy
open _root_.Nat renaming le_refl → Zg, lt_of_lt_of_le → Ya, zero_le → XL
open _root_.Option.some renaming injEq → Qk
open _root_.Go.Result renaming andThen → Xe
open _root_.Go.Proofs.Tryz renaming prog → Zb, underlying24 → ZC, underlying281 → KJ, underlying63 → Zr
open _root_.Go.Value renaming ownBlock → Y4, slice → Yj
open _root_.Go.Proofs.YtianiiijaopdpaaGreat.World.rangeAt renaming same → QX
theorem xU {G H:Prop} (k:H) (h:BZ H→G:=by
  intro zk;refine Jw 281 _ (w.heap.size+1) 281 (cellsP (p1,p2)) _ rfl rfl rfl (fun w' h=>T1.out.2.1.below h T1.out.2.1.lt) Tryz.underlying281 rfl Nr ?_;exact zk.out) :G:=h ⟨k⟩
theorem TJ {G H:Prop} (k:H) (h:BZ H→G:=by
  intro zk;iterate 5 (go_big_quiet_step ((intros; rfl)))
  exact zk.out) :G:=h ⟨k⟩
theorem Zfs {G H:Prop} (k:H) (h:BZ H→G:=by
  intro zk;refine SO (.agg (cellsP (p2,p1))) #[.agg (cellsP (p1,p2))] Ye Ye Tryz.call198 (fun w' h=>(reversed_any (p1,p2) w').mono fun e w'' ⟨he,hb⟩=>⟨he,h.trans (hb.mono h.size)⟩) ?_;exact zk.out) :G:=h ⟨k⟩
theorem zT5 {G:Prop} (h:G:=by
  refine ⟨R2.out.2.2,?_⟩;refine Dg ?_;refine Di (i:=13) Ye (of_decide_eq_true Ye) ?_;refine JZ #[.agg (Zd s),.agg (Zd d),.agg (Zk c)] Tryz.call317 ((HA.out w2.drew).mono ?_);rintro e w3 ⟨rfl,b3⟩;have D3:Hid (Blk w3 (w.heap.size+1) 24 (Zk c)):=Lib.hid (R2.out.2.2.below b3 R2.out.2.2.lt);have F3:Hid (w3.there g (i*7) 7∧(w3.setCells g (i*7) (Zd (Fj s)).toList).there g (j*7) 7∧((w3.setCells g (i*7) (Zd (Fj s)).toList).setCells g (j*7) (Zd (N2 s d)).toList).ownsRow 0 63 7 (.slice (some ⟨g,0,none⟩) l.length cp) l.length (XD ((l.set i (Fj s)).set j (N2 s d)))):=Lib.hid (owns_move (K9 O2.out (fun k hk=>by simp only [Value.ownBlock,Option.some.injEq] at hk; subst hk; exact b3.block _ G2.out)) HIJ.out.1 HIJ.out.2.1 HIJ.out.2.2 _ _);have K3:Hid (Kept (fun k=>k=g) w w3):=Lib.hid (Kept.of_below (T2.out.2.2.drew.trans (b3.mono T2.out.2.2.size)));have N3:Hid (g≠w.heap.size+1):=Lib.hid Ze;clear b3;refine ⟨_,rfl,D3.out,?_⟩;refine Dg ?_;refine Fy (f:=3) (fun w'=>Blk w' (w.heap.size+1) 24 (Zk c)) [14,15,16,17,18] (fun _ h=>h) Ye D3.out ?_;refine Kg ?_;refine NX ?_;refine TJ ?_;refine Qc ?_;refine Di (i:=19) Ye (of_decide_eq_true Ye) ?_;refine YD rfl rfl (wp_store_mid _ _ _ rfl g (i*7) (Zd (Fj s)) rfl rfl F3.out.1 Ym (Yx _) ?_);have D4:Hid (Blk (w3.setCells g (i*7) (Zd (Fj s)).toList) (w.heap.size+1) 24 (Zk c)):=Lib.hid (D3.out.kept (Kept.setCells _ _ _ (Kept.refl (fun k=>k=g) w3) (.inl rfl)) (fun e=>N3.out e.symm));have F4:Hid ((w3.setCells g (i*7) (Zd (Fj s)).toList).there g (j*7) 7∧((w3.setCells g (i*7) (Zd (Fj s)).toList).setCells g (j*7) (Zd (N2 s d)).toList).ownsRow 0 63 7 (.slice (some ⟨g,0,none⟩) n cp) n (XD ((l.set i (Fj s)).set j (N2 s d)))∧Kept (fun k=>k=g) w (w3.setCells g (i*7) (Zd (Fj s)).toList)):=Lib.hid (by rw [←HN.out]; exact ⟨F3.out.2.1,F3.out.2.2,Kept.setCells _ _ _ K3.out (.inl rfl)⟩);clear F3 K3 D3;generalize w3.setCells g (i*7) (Zd (Fj s)).toList=w4 at*;refine ⟨D4.out,?_⟩;refine Dg ?_;refine Fy (f:=1) (fun w'=>Blk w' (w.heap.size+1) 24 (Zk c)) [20] (fun _ h=>h) Ye D4.out ?_;refine Kg ?_;refine FV ?_;refine GN ?_;refine Qc ?_;refine Di (i:=21) Ye (of_decide_eq_true Ye) ?_;refine YD rfl rfl (wp_store_mid _ _ _ rfl g (j*7) (Zd (N2 s d)) rfl rfl F4.out.1 Ym (Yx _) ?_);refine ⟨D4.out.kept (Kept.setCells _ _ _ (Kept.refl (fun k=>k=g) _) (.inl rfl)) (fun e=>N3.out e.symm),?_⟩;refine Dg ?_;refine ⟨by kernel_rfl,?_⟩;refine GM ?_;have Z:Hid ((w4.setCells g (j*7) (Zd (N2 s d)).toList).ownsRow 0 63 7 (.slice (some ⟨g,0,none⟩) n cp) n (XD ((l.set i (Fj s)).set j (N2 s d)))∧Kept (fun k=>k=g) w (w4.setCells g (j*7) (Zd (N2 s d)).toList)):=Lib.hid ⟨F4.out.2.1,Kept.setCells _ _ _ F4.out.2.2 (.inl rfl)⟩;generalize w4.setCells g (j*7) (Zd (N2 s d)).toList=w5 at*;go_wp2_with fail;go_ret;exact ⟨rfl,Z.out⟩) :G:=h
theorem rW {G:Prop} (h:G:=by
  rw [Zcb (v:= { v with bal:=v.bal - penQ v c}) h1 h2 h3] at h;simp at h) :G:=h
theorem rY {G:Prop} (h:G:=by
  rw [Zb9 (v:= { v with bal:=v.bal - penQ v c}) h1 h2] at h;simp at h) :G:=h
theorem r7 {G:Prop} (h:G:=by
  rw [Zcc (v:= { v with bal:=v.bal - penQ v c}) h1] at h;simp at h) :G:=h
section
open Go Go.RowKit Go.Deep
theorem SY {P:Program}{fn:Func}{p q u:Tmp}{ty:TypeId}(h:fn.results= #[.cell p ty,.cell q ty,.tmp u])(tmps:Array Zl)(w:Zc)(g g2:Nat)(t:TypeId)(cs cs2:Array Zl)(fr fr2:Nat × Nat)(d:TypeDesc)
  (hp:tmps.getD p Vm= .pointer (some ⟨g,0,none⟩)) (hq:tmps.getD q Vm= .pointer (some ⟨g2,0,none⟩)) (hg:w.heap[g]?=some (.cells cs t fr)) (TT:w.heap[g2]?=some (.cells cs2 t fr2))
  (hu:P.underlying ty=some d) (hd:(match d with | .struct _ | .array _ _=>true | _=>false)=true) (hi:(P.info? ty).map (·.size)=some cs.size) (UR:(P.info? ty).map (·.size)=some cs2.size) :
  (results fn tmps).run P w= .ok (.tuple #[.agg cs,.agg cs2,tmps.getD u Vm]) w:=by
 have e:(results fn tmps).run P w=((asAddr (tmps.getD p Vm)).run P w).andThen fun a w₁=>((loadVar ty a).run P w₁).andThen fun v w₂=>((asAddr (tmps.getD q Vm)).run P w₂).andThen fun a2 w₃=>((loadVar ty a2).run P w₃).andThen fun v2 w₄=> .ok (.tuple #[v,v2,tmps.getD u Vm]) w₄:=by
  simp only [results,h];simp [Sem.run_bind,Xe]
 rw [e,hp,hq];simp [asAddr,run_loadVar_row w g t ty cs fr d hg hu hd hi,run_loadVar_row w g2 t ty cs2 fr2 d TT hu hd UR,Xe]
def Fiv (w W:Zc)(s d:Yd)(c:Nat→Int) :Prop:=
 cQ w W s d c∧Blk W (w.heap.size+3) 63 (Zd ZZ)∧Blk W (w.heap.size+4) 63 (Zd ZZ)
section
variable {w W W':Zc} {s d:Yd} {c:Nat→Int}
theorem Fiv.new (w:Zc)(s d:Yd)(c:Nat→Int) :Fiv w (((((w.alloc (.cells (Zd s) 63)).alloc (.cells (Zd d) 63)).alloc (.cells (Zk c) 24)).alloc (.cells (Zd ZZ) 63)).alloc (.cells (Zd ZZ) 63)) s d c:=by
 have h:=cQ.new w s d c;have hs:(((w.alloc (.cells (Zd s) 63)).alloc (.cells (Zd d) 63)).alloc (.cells (Zk c) 24)).heap.size=w.heap.size+3:=by simp
 generalize ((w.alloc (.cells (Zd s) 63)).alloc (.cells (Zd d) 63)).alloc (.cells (Zk c) 24)=W at*;refine ⟨h.next (((Zp _ _).alloc (Zg _) _).alloc ZI _),?_,?_⟩
 ·have:=YA (Zv W 63 (Zd ZZ)) (.cells (Zd ZZ) 63);rwa [hs] at this
 ·have:=Ee W (.cells (Zd ZZ) 63) (Zd ZZ) 63;rwa [hs] at this
theorem Fiv.next (h:Fiv w W s d c)(hb:Zs W.heap.size W W') :Fiv w W' s d c:=⟨h.1.next hb,h.2.1.below hb h.2.1.lt,h.2.2.below hb h.2.2.lt⟩
end
theorem nH (s d:Yd)(c:Nat→Int)(w:Zc)(hs:Yo s)(hd:Yo d)(hn:EM s d (c 6)=0) :
  Zj Zb 317 #[.agg (Zd s),.agg (Zd d),.agg (Zk c)] w fun e w'=>e= .returned (.tuple #[.agg (Zd (Fj s)),.agg (Zd (N2 s d)),.int .i64 0])∧Zs w.heap.size w w':=by
 have HT:=Za (Fiv.new w s d c);have HC:=Za (fun w=>Nf s d c w hs hd);rw [hn] at HC;have hk:=RV hn;obtain ⟨t,ht⟩ : ∃t,d.bal+s.bal=t:=⟨_,rfl⟩;have hw:IntKind.u64.wrap (d.bal+s.bal)=t:=by
  have h1:=hs.bal;have h2:=hd.bal;rw [ht];have h3:0≤t:=by omega
  have h4:t≤18446744073709551615:=by omega
  simp [IntKind.wrap,IntKind.signed,IntKind.bits]; omega
 have E:Hid (Zd (N2 s d)=(Zd d).setIfInBounds 0 (.int .u64 t)):=Za (by rw [←ht]; rfl);have E2:Hid (Zd (Fj s)=((Zd s).setIfInBounds 0 (.int .u64 0)).setIfInBounds 1 (.int .i64 7)):=Za rfl;clear hs hd hn hk ht;go_enter Tryz.func317,Tryz.ntmps317;go_upto_region 1 with (fail);simp only [GO];generalize ((((w.alloc (.cells (Zd s) 63)).alloc (.cells (Zd d) 63)).alloc (.cells (Zk c) 24)).alloc (.cells (Zd ZZ) 63)).alloc (.cells (Zd ZZ) 63)=W at*;go_wp2_with (first | (refine Zn rfl 63 _ rfl w.heap.size rfl 63 _ (0,0) _ HT.out.1.1 Zr rfl Ym ?_) | (refine Zn rfl 63 _ rfl (w.heap.size+1) rfl 63 _ (0,0) _ HT.out.1.2.1 Zr rfl Ym ?_) | (refine Zn rfl 24 _ rfl (w.heap.size+2) rfl 24 _ (0,0) _ HT.out.1.2.2.1 ZC rfl XG ?_));refine (HC.out _).mono ?_;rintro e w1 ⟨rfl,b1⟩;have T1:=Za (HT.out.next b1);clear HT b1 HC;have f0:=T1.out.1.1.frozen 0;have f1:=T1.out.1.1.frozen 1;have g0:=T1.out.1.2.1.frozen 0;have x0:w1.cell? ⟨w.heap.size,0,none⟩=some (.int .u64 s.bal):=T1.out.1.1.cell 0;have y0:w1.cell? ⟨w.heap.size+1,0,none⟩=some (.int .u64 d.bal):=T1.out.1.2.1.cell 0;have x1:w1.cell? ⟨w.heap.size,1,none⟩=some (.int .i64 s.st):=T1.out.1.1.cell 1;go_upto_region 7 with (fail);have Z:Hid (Blk (((w1.setCell ⟨w.heap.size+1,0,none⟩ (.int .u64 t)).setCell ⟨w.heap.size,0,none⟩ (.int .u64 0)).setCell ⟨w.heap.size,1,none⟩ (.int .i64 7)) w.heap.size 63 (Zd (Fj s))∧Blk (((w1.setCell ⟨w.heap.size+1,0,none⟩ (.int .u64 t)).setCell ⟨w.heap.size,0,none⟩ (.int .u64 0)).setCell ⟨w.heap.size,1,none⟩ (.int .i64 7)) (w.heap.size+1) 63 (Zd (N2 s d))∧
   Blk (((w1.setCell ⟨w.heap.size+1,0,none⟩ (.int .u64 t)).setCell ⟨w.heap.size,0,none⟩ (.int .u64 0)).setCell ⟨w.heap.size,1,none⟩ (.int .i64 7)) (w.heap.size+3) 63 (Zd ZZ)∧Blk (((w1.setCell ⟨w.heap.size+1,0,none⟩ (.int .u64 t)).setCell ⟨w.heap.size,0,none⟩ (.int .u64 0)).setCell ⟨w.heap.size,1,none⟩ (.int .i64 7)) (w.heap.size+4) 63 (Zd ZZ)∧
   Zs w.heap.size w (((w1.setCell ⟨w.heap.size+1,0,none⟩ (.int .u64 t)).setCell ⟨w.heap.size,0,none⟩ (.int .u64 0)).setCell ⟨w.heap.size,1,none⟩ (.int .i64 7))):=by
  obtain ⟨⟨h1,h2,-,h3⟩,h4,h5⟩:=T1.out;refine Za ⟨?_,?_,?_,?_,?_⟩
  ·rw [E2.out];exact ((h1.far ZI _).set_ 0 _).set_ 1 _
  ·rw [E.out];exact ((h2.set_ 0 _).far ZI _).far ZI _
  ·exact ((h4.far ZI _).far ZI _).far ZI _
  ·exact ((h5.far ZI _).far ZI _).far ZI _
  ·exact ((h3.setCell ZI _).setCell ZI _).setCell ZI _
 generalize ((w1.setCell ⟨w.heap.size+1,0,none⟩ (.int .u64 t)).setCell ⟨w.heap.size,0,none⟩ (.int .u64 0)).setCell ⟨w.heap.size,1,none⟩ (.int .i64 7)=w3 at*;clear T1 x0 x1 y0 f0 f1 g0 E E2 hw;have R3:Hid (Blk w3.drew (w.heap.size+3) 63 (Zd ZZ)):=Za Z.out.2.2.1;have R4:Hid (Blk (w3.drew.setRow (w.heap.size+3) (Zd (Fj s))) (w.heap.size+4) 63 (Zd ZZ)):=Za ((VY _ _ _ _ Ze).trans Z.out.2.2.2.1);have S3:Hid (Blk (w3.drew.setRow (w.heap.size+3) (Zd (Fj s))) w.heap.size 63 (Zd (Fj s))∧Blk (w3.drew.setRow (w.heap.size+3) (Zd (Fj s))) (w.heap.size+1) 63 (Zd (N2 s d))):=Za ⟨(VY _ _ _ _ Ze).trans Z.out.1,(VY _ _ _ _ Ze).trans Z.out.2.1⟩;have B3:Hid (Zs w.heap.size w w3.drew):=Za Z.out.2.2.2.2.drew;refine M0 (fun w'=>Blk w' w.heap.size 63 (Zd (Fj s))∧Blk w' (w.heap.size+1) 63 (Zd (N2 s d))) 3 1 [0,1] ⟨Z.out.1,Z.out.2.1⟩ ?_;refine Kg ?_;show wpQuiet _ _ _ _ [_,_] _;refine JQ 63 _ w.heap.size 0 (Fj s) _ rfl rfl rfl (fun w' h=>h.1.range) Zr rfl Ym ?_;refine Qe ?_;refine JQ 63 _ (w.heap.size+1) 0 (N2 s d) _ rfl rfl rfl (fun w' h=>h.2.range) Zr rfl Ym ?_;refine Qe ?_;refine Qc ?_;clear Z;generalize w3.drew=w4 at*;refine hfO (i:=2) ?_;refine YD rfl rfl (wp_store_row _ _ _ rfl (w.heap.size+3) (Zd (Fj s)) rfl rfl 63 _ R3.out Ym rfl (Yx _) ?_);refine ⟨S3.out,?_⟩;refine Bn ?_;refine ⟨by kernel_rfl,?_⟩;refine LY ?_;go_wp2_with (first | (refine Zo rfl _ _ _ rfl (w.heap.size+4) (Zd (N2 s d)) rfl rfl 63 _ R4.out Ym rfl (Yx _) ?_));refine GM ?_;go_wp2_with fail;exact bodyPost_ret (v:= .tuple #[.agg (Zd (Fj s)),.agg (Zd (N2 s d)),.int .i64 0]) (SY (fn:=Tryz.f317) rfl _ _ (w.heap.size+3) (w.heap.size+4) 63 _ _ (0,0) (0,0) _ rfl rfl ((VY _ _ _ _ Ze).trans (Z6 _ _ _ _ _ _ R3.out)) (Z6 _ _ _ _ _ _ R4.out) Zr rfl Ym Ym) rfl ⟨rfl,Xv (Xv B3.out Ze _) Ze _⟩
end
section
open Go Go.RowKit Go.Deep
def inB (p:Int × Int)(n:Nat) :Bool:=decide (0≤p.1∧0≤p.2∧p.1 < n∧p.2 < n)
theorem MU (p:Int × Int)(n:Nat)(w:Zc) :
  Zj Zb 197 #[.agg (cellsP p),.int .i64 n] w fun e w'=>e= .returned (.bool (inB p n))∧Zs w.heap.size w w':=by
 have hB:Blk (w.alloc (.cells (cellsP p) 281)) w.heap.size 281 (cellsP p):=Zv _ _ _;have x0:(w.alloc (.cells (cellsP p) 281)).cell? ⟨w.heap.size,0,none⟩=some (.int .i64 p.1):=hB.cell 0;have x1:(w.alloc (.cells (cellsP p) 281)).cell? ⟨w.heap.size,1,none⟩=some (.int .i64 p.2):=hB.cell 1;have B:=Za (show Zs w.heap.size w (w.alloc (.cells (cellsP p) 281)) from (Zp _ _).alloc (Zg _) _);clear hB;obtain ⟨p1,p2⟩:=p;simp only at x0 x1;go_enter Tryz.func197,Tryz.ntmps197;go_upto_region 1 with (fail);generalize w.alloc (.cells (cellsP (p1,p2)) 281)=W at*;go_wp2
 ·rename_i h
  go_ret;exact ⟨JY (decide_eq_decide.2 (by show max p1 p2 < (n:Int) ↔ (0≤p1∧0≤p2∧p1 < n∧p2 < n); omega)),B.out⟩
 ·rename_i h
  go_ret;exact ⟨JY (decide_eq_false (by show ¬(0≤p1∧0≤p2∧p1 < (n:Int)∧p2 < (n:Int)); omega)).symm,B.out⟩
theorem reversed_any (p:Int × Int)(w:Zc) :
  Zj Zb 198 #[.agg (cellsP p)] w fun e w'=>e= .returned (.agg (cellsP (p.2,p.1)))∧Zs w.heap.size w w':=by
 have hB:Blk ((w.alloc (.cells (cellsP p) 281)).alloc (.cells (cellsP (0,0)) 281)) w.heap.size 281 (cellsP p):=YA (Zv _ _ _) _;have x0:((w.alloc (.cells (cellsP p) 281)).alloc (.cells (cellsP (0,0)) 281)).cell? ⟨w.heap.size,0,none⟩=some (.int .i64 p.1):=hB.cell 0;have x1:((w.alloc (.cells (cellsP p) 281)).alloc (.cells (cellsP (0,0)) 281)).cell? ⟨w.heap.size,1,none⟩=some (.int .i64 p.2):=hB.cell 1;have hz:(#[.int .i64 0,.int .i64 0] :Array Zl)=cellsP (0,0):=rfl;have Z:=Za (Ee w (.cells (cellsP p) 281) (cellsP (0,0)) 281);have B:=Za (show Zs w.heap.size w ((w.alloc (.cells (cellsP p) 281)).alloc (.cells (cellsP (0,0)) 281)) from ((Zp _ _).alloc (Zg _) _).alloc ZI _);clear hB;go_enter Tryz.func198,Tryz.ntmps198;go_upto_region 1 with (fail);generalize (w.alloc (.cells (cellsP p) 281)).alloc (.cells (cellsP (0,0)) 281)=W at*;clear hz;go_wp2_with (first | (refine Kb rfl 281 _ rfl Ye ?_; rw [show (Tryz.prog.built 281 _).getD #[]=cellsP (p.2,p.1) from by kernel_rfl]) | (refine Zo rfl _ _ _ rfl (w.heap.size+1) (cellsP (p.2,p.1)) rfl rfl 281 _ Z.out Nr rfl (Uv _) ?_));exact bodyPost_ret (v:= .agg (cellsP (p.2,p.1))) (results_cell_row (fn:=Tryz.f198) rfl _ _ (w.heap.size+1) 281 _ (0,0) _ rfl (Z6 _ _ _ _ _ _ Z.out) KJ rfl Nr) rfl ⟨rfl,Xv B.out Ze _⟩
def IG (w W:Zc)(p:Int × Int)(c:Nat→Int) :Prop:=
 Blk W w.heap.size 24 (Zk c)∧Blk W (w.heap.size+1) 281 (cellsP p)∧Zs w.heap.size w W
theorem IG.new (w:Zc)(p:Int × Int)(c:Nat→Int) :IG w ((w.alloc (.cells (Zk c) 24)).alloc (.cells (cellsP p) 281)) p c:=
 ⟨YA (Zv w _ _) _,Ee w _ _ _,((Zp _ _).alloc (Zg _) _).alloc ZI _⟩
theorem IG.next {w W W':Zc}{p:Int × Int}{c:Nat→Int}(h:IG w W p c)(hb:Zs W.heap.size W W') :IG w W' p c:=
 ⟨h.1.below hb h.1.lt,h.2.1.below hb h.2.1.lt,h.2.2.trans (hb.mono h.2.2.size)⟩
theorem wC (a:Option Addr)(n cp:Nat)(p1 p2:Int)(c:Nat→Int)(w:Zc)(h:inB (p1,p2) n=false) :
  Zj Zb 130 #[.slice a n cp,.int .i64 p1,.int .i64 p2,.agg (Zk c)] w fun e w'=>e= .returned (.int .i64 7)∧Zs w.heap.size w w':=by
 have HW:=Za (MU (p1,p2) n);have T:=Za (IG.new w (p1,p2) c);rw [h] at HW;clear h;go_enter Tryz.func130,Tryz.ntmps130;go_upto_region 2 with (first | (refine Kb rfl 281 _ rfl Ye ?_; rw [show (Tryz.prog.built 281 _).getD #[]=cellsP (p1,p2) from by kernel_rfl]) | (refine Zo rfl _ _ _ rfl (w.heap.size+1) (cellsP (p1,p2)) rfl rfl 281 _ (Ee w _ _ _) Nr rfl (Uv _) ?_; rw [Ew]));generalize (w.alloc (.cells (Zk c) 24)).alloc (.cells (cellsP (p1,p2)) 281)=W at*;go_wp2_with (first | (refine Zn rfl 281 _ rfl (w.heap.size+1) rfl 281 _ (0,0) _ T.out.2.1 KJ rfl Nr ?_));refine (HW.out _).mono ?_;rintro e w1 ⟨rfl,b1⟩;have T1:=Za (T.out.next b1);clear b1 T HW;go_wp2_with fail;go_ret;exact ⟨rfl,T1.out.2.2⟩
theorem qU (a:Option Addr)(n cp:Nat)(p1 p2:Int)(c:Nat→Int)(w:Zc)(h:inB (p1,p2) n=true)(he:p1=p2) :
  Zj Zb 130 #[.slice a n cp,.int .i64 p1,.int .i64 p2,.agg (Zk c)] w fun e w'=>e= .returned (.int .i64 12)∧Zs w.heap.size w w':=by
 have HW:=Za (MU (p1,p2) n);have T:=Za (IG.new w (p1,p2) c);have HE:Hid (decide ((p1,p2)=(p2,p1))=true):=Za (decide_eq_true (by rw [he]));rw [h] at HW;clear h he;go_enter Tryz.func130,Tryz.ntmps130;go_upto_region 2 with (first | (refine Kb rfl 281 _ rfl Ye ?_; rw [show (Tryz.prog.built 281 _).getD #[]=cellsP (p1,p2) from by kernel_rfl]) | (refine Zo rfl _ _ _ rfl (w.heap.size+1) (cellsP (p1,p2)) rfl rfl 281 _ (Ee w _ _ _) Nr rfl (Uv _) ?_; rw [Ew]));generalize (w.alloc (.cells (Zk c) 24)).alloc (.cells (cellsP (p1,p2)) 281)=W at*;go_wp2_with (first | (refine Zn rfl 281 _ rfl (w.heap.size+1) rfl 281 _ (0,0) _ T.out.2.1 KJ rfl Nr ?_));refine (HW.out _).mono ?_;rintro e w1 ⟨rfl,b1⟩;have T1:=Za (T.out.next b1);clear b1 T HW;go_wp2_with fail;refine XB (fun w'=>Zs w1.heap.size w1 w') Ye Ye (Zp _ _).drew ?_;refine xU ?_;refine Qe ?_;refine xU ?_;refine Qe ?_;refine Zfs ?_;refine Qe ?_;refine Gm (.bool true) rfl (fun w=>av rfl rfl HE.out) ?_;refine Qe ?_;refine Qc ?_;intro w2 b2;have T2:=Za (T1.out.next b2);clear b2 T1;go_wp2;go_ret;exact ⟨rfl,T2.out.2.2⟩
theorem wB (S:Nat→Prop)(a:Option Addr)(l:List Yd)(cp i j:Nat)(s d:Yd)(c:Nat→Int)(w:Zc)(hL:Fm w S a l)(hi:l[i]?=some s)(hj:l[j]?=some d)(KF:i≠j)(hs:Yo s)(hd:Yo d) :
  Zj Zb 130 #[.slice a l.length cp,.int .i64 i,.int .i64 j,.agg (Zk c)] w fun e w'=>e= .returned (.int .i64 (EM s d (c 6)))∧Zs w.heap.size w w':=by
 have Fz:=(Zi.1 hi).1;have DW:=(Zi.1 hj).1;obtain ⟨p1,hp1⟩ : ∃p1:Int,(i:Int)=p1:=⟨_,rfl⟩;obtain ⟨p2,kU⟩ : ∃p2:Int,(j:Int)=p2:=⟨_,rfl⟩;obtain ⟨n,hn⟩ : ∃n,l.length=n:=⟨_,rfl⟩;have h:inB ((i:Int),(j:Int)) n=true:=decide_eq_true LD;have HE:Hid (decide (((i:Int),(j:Int))=((j:Int),(i:Int)))=false):=Za (decide_eq_false (by simp only [Prod.mk.injEq]; omega));rw [hp1,kU] at h HE ⊢;rw [hn] at Fz DW ⊢;have HW:=Za (MU (p1,p2) n);have T:=Za (IG.new w (p1,p2) c);rw [h] at HW;have HC:=Za (fun w=>Nf s d c w hs hd);generalize EM s d (c 6)=r at*;obtain ⟨g,off,rfl,rs⟩:=hL.at hi;obtain ⟨g',Zfe,e',rd⟩:=hL.at hj;injection e' with e';injection e' with e1 e2 e3;subst e1 e2;have hg:g < w.heap.size:=by
  obtain ⟨b,o,e1,-,e2,-⟩:=hL Ze;injection e1 with e1;injection e1 with e1;omega
 have RS:=Za (Zh rs (Zh rd hg));have HP:=Za (Zh hp1 kU);clear rs rd hL hi hj hs hd h e3 hn hp1 kU;go_enter Tryz.func130,Tryz.ntmps130;go_upto_region 2 with (first | (refine Kb rfl 281 _ rfl Ye ?_; rw [show (Tryz.prog.built 281 _).getD #[]=cellsP (p1,p2) from by kernel_rfl]) | (refine Zo rfl _ _ _ rfl (w.heap.size+1) (cellsP (p1,p2)) rfl rfl 281 _ (Ee w _ _ _) Nr rfl (Uv _) ?_; rw [Ew]));generalize (w.alloc (.cells (Zk c) 24)).alloc (.cells (cellsP (p1,p2)) 281)=W at*;go_wp2_with (first | (refine Zn rfl 281 _ rfl (w.heap.size+1) rfl 281 _ (0,0) _ T.out.2.1 KJ rfl Nr ?_));refine (HW.out _).mono ?_;rintro e w1 ⟨rfl,b1⟩;have T1:=Za (T.out.next b1);clear b1 T HW;go_wp2_with fail;refine XB (fun w'=>Zs w1.heap.size w1 w') Ye Ye (Zp _ _).drew ?_;refine xU ?_;refine Qe ?_;refine xU ?_;refine Qe ?_;refine Zfs ?_;refine Qe ?_;refine Gm (.bool false) rfl (fun w=>av rfl rfl HE.out) ?_;refine Qe ?_;refine Qc ?_;intro w2 b2;have T2:=Za (T1.out.next b2);clear b2 T1;have RS2:Hid (w2.rangeAt g (off+i*7) s.row∧w2.rangeAt g (off+j*7) d.row):=Za ⟨QX RS.out.1 (T2.out.2.2.block g RS.out.2.2),QX RS.out.2.1 (T2.out.2.2.block g RS.out.2.2)⟩;obtain ⟨rfl,rfl⟩:=HP.out;have g2:g < w2.heap.size:=Ya RS.out.2.2 T2.out.2.2.size;have k1: ¬(i:Int)< 0:=by omega
 have k2: ¬(n:Int)≤(i:Int):=by omega
 have k3:(i:Int)< (n:Int):=by omega
 have m1: ¬(j:Int)< 0:=by omega
 have m2: ¬(n:Int)≤(j:Int):=by omega
 have m3:(j:Int)< (n:Int):=by omega
 go_wp2;refine XB (fun w'=>Zs w2.heap.size w2 w') Ye Ye (Zp _ _).drew ?_;refine DP ?_;refine JQ 63 _ g (off+i*7) s _ rfl rfl rfl (fun w' h=>QX RS2.out.1 (h.block g g2)) Zr rfl Ym ?_;refine Qe ?_;refine DP ?_;refine JQ 63 _ g (off+j*7) d _ rfl rfl rfl (fun w' h=>QX RS2.out.2 (h.block g g2)) Zr rfl Ym ?_;refine Qe ?_;refine Jw 24 _ w.heap.size 24 (Zk c) _ rfl rfl rfl (fun w' h=>T2.out.1.below h T2.out.1.lt) ZC rfl XG ?_;refine Qe ?_;refine SO (.int .i64 r) #[.agg (Zd s),.agg (Zd d),.agg (Zk c)] Ye Ye Tryz.call199 (fun w' h=>(HC.out w').mono fun e w'' ⟨he,hb⟩=>⟨he,h.trans (hb.mono h.size)⟩) ?_;refine Qe ?_;go_big_quiet_step ((intros; rfl));refine Qc ?_;intro w3 b3;have B3:=Za (T2.out.2.2.trans (b3.mono T2.out.2.2.size));go_wp2;go_ret;exact ⟨rfl,B3.out⟩
theorem DE (S:Nat→Prop)(a:Option Addr)(l:List Yd)(cp:Nat)(p:Int × Int)(c:Nat→Int)(w:Zc)(hL:Fm w S a l)(hf: ∀v ∈ l,Yo v) :
  Zj Zb 130 #[.slice a l.length cp,.int .i64 p.1,.int .i64 p.2,.agg (Zk c)] w fun e w'=>e= .returned (.int .i64 (DO l p (c 6)))∧Zs w.heap.size w w':=by
 obtain ⟨p1,p2⟩:=p
 by_cases h:0≤p1∧0≤p2∧p1 < l.length∧p2 < l.length
 ·obtain ⟨i,rfl⟩:=Int.eq_ofNat_of_zero_le h.1;obtain ⟨j,rfl⟩:=Int.eq_ofNat_of_zero_le h.2.1;obtain ⟨s,hs⟩ : ∃s,l[i]?=some s:=⟨_,Zf Ze⟩;obtain ⟨d,hd⟩ : ∃d,l[j]?=some d:=⟨_,Zf Ze⟩;rw [qR (c 6) hs hd]
  by_cases he:i=j
  ·rw [if_pos he];exact qU a l.length cp i j c w (decide_eq_true h) Ze
  ·rw [if_neg he];exact wB S a l cp i j s d c w hL hs hd he (hf s (ZB hs)) (hf d (ZB hd))
 ·have e:DO l (p1,p2) (c 6)=7:=by
   unfold DO;rw [if_pos LD]
  rw [e];exact wC a l.length cp p1 p2 c w (decide_eq_false h)
end
section
open Go Go.RowKit Go.Deep
def AX (w W:Zc)(p:Int × Int)(c:Nat→Int) :Prop:=
 Blk W w.heap.size 281 (cellsP p)∧Blk W (w.heap.size+1) 24 (Zk c)∧Zs w.heap.size w W
theorem AX.new (w:Zc)(p:Int × Int)(c:Nat→Int) :AX w ((w.alloc (.cells (cellsP p) 281)).alloc (.cells (Zk c) 24)) p c:=
 ⟨YA (Zv w _ _) _,Ee w _ _ _,((Zp _ _).alloc (Zg _) _).alloc ZI _⟩
theorem AX.next {w W W':Zc}{p:Int × Int}{c:Nat→Int}(h:AX w W p c)(hb:Zs W.heap.size W W') :AX w W' p c:=
 ⟨h.1.below hb h.1.lt,h.2.1.below hb h.2.1.lt,h.2.2.trans (hb.mono h.2.2.size)⟩
theorem fk (S:Nat→Prop)(a:Option Addr)(l:List Yd)(cp:Nat)(p:Int × Int)(c:Nat→Int)(w:Zc)(hL:Fm w S a l)(hf: ∀v ∈ l,Yo v)(h:DO l p (c 6)≠0) :
  Zj Zb 299 #[.agg (cellsP p),.slice a l.length cp,.agg (Zk c)] w fun e w'=>e= .returned (.bool false)∧Zs w.heap.size w w':=by
 have T:=Za (AX.new w p c);have HR:=Za (fun w (hL:Fm w S a l)=>DE S a l cp p c w hL hf);have HL:=Za (show Fm ((w.alloc (.cells (cellsP p) 281)).alloc (.cells (Zk c) 24)) S a l from hL.below T.out.2.2);generalize DO l p (c 6)=r at*;have q:(r != 0)=true:=by simpa using h
 obtain ⟨n,hn⟩ : ∃n,l.length=n:=⟨_,rfl⟩;rw [hn] at HR ⊢;obtain ⟨p1,p2⟩:=p;simp only at HR;clear hL hf h hn;go_enter Tryz.func299,Tryz.ntmps299;go_upto_region 1 with (fail);generalize (w.alloc (.cells (cellsP (p1,p2)) 281)).alloc (.cells (Zk c) 24)=W at*;have x0:W.cell? ⟨w.heap.size,0,none⟩=some (.int .i64 p1):=T.out.1.cell 0;have x1:W.cell? ⟨w.heap.size,1,none⟩=some (.int .i64 p2):=T.out.1.cell 1;go_quiet (fail);have T1:Hid (AX w (W.drewN nq) (p1,p2) c):=Za ⟨T.out.1,T.out.2.1,below_drewN T.out.2.2 nq⟩;have jG:Hid (Fm (W.drewN nq) S a l):=Za HL.out;clear T HL x0 x1;generalize W.drewN nq=w1 at*;go_wp2_with (first | (refine Zn rfl 24 _ rfl (w.heap.size+1) rfl 24 _ (0,0) _ T1.out.2.1 ZC rfl XG ?_));refine (HR.out _ jG.out).mono ?_;rintro e w2 ⟨rfl,b2⟩;have B2:=Za (T1.out.2.2.trans (b2.mono T1.out.2.2.size));clear b2;go_wp2_with fail;go_ret;exact ⟨rfl,B2.out⟩
theorem owns_move {w:Zc}{g cp i j:Nat}{l:List Yd}{s d:Yd}(h:w.ownsRow 0 63 7 (.slice (some ⟨g,0,none⟩) l.length cp) l.length (XD l))(hi:l[i]?=some s)(hj:l[j]?=some d)(KF:i≠j)(x y:Yd) :
  w.there g (i*7) 7∧(w.setCells g (i*7) x.row).there g (j*7) 7∧((w.setCells g (i*7) x.row).setCells g (j*7) y.row).ownsRow 0 63 7 (.slice (some ⟨g,0,none⟩) l.length cp) l.length (XD ((l.set i x).set j y)):=by
 obtain ⟨h1,h2⟩:=Nz h hi x;have e:(l.set i x).length=l.length:=List.length_set;rw [←e] at h1;have O3:(l.set i x)[j]?=some d:=by exact jC
 obtain ⟨h3,h4⟩:=Nz h1 O3 y;rw [e] at h3;exact ⟨h2,h4,h3⟩
theorem fm (g:Nat)(l:List Yd)(cp i j:Nat)(s d:Yd)(c:Nat→Int)(w:Zc)(hO:w.ownsRow 0 63 7 (.slice (some ⟨g,0,none⟩) l.length cp) l.length (XD l))(hf: ∀v ∈ l,Yo v)
  (hi:l[i]?=some s) (hj:l[j]?=some d) (KF:i≠j) (hk:EM s d (c 6)=0) :
  Zj Zb 299 #[.agg (cellsP ((i:Int),(j:Int))),.slice (some ⟨g,0,none⟩) l.length cp,.agg (Zk c)] w fun e w'=>e= .returned (.bool true)∧
   w'.ownsRow 0 63 7 (.slice (some ⟨g,0,none⟩) l.length cp) l.length (XD ((l.set i (Fj s)).set j (N2 s d)))∧Kept (fun k=>k=g) w w':=by
 have hgw:g < w.heap.size:=(hO.lt g rfl).2;have T:=Za (AX.new w ((i:Int),(j:Int)) c);have HR:=Za (fun w (hL:Fm w (fun _=>False) (some ⟨g,0,none⟩) l)=>DE (fun _=>False) (some ⟨g,0,none⟩) l cp ((i:Int),(j:Int)) c w hL hf);rw [qR (c 6) hi hj,if_neg KF,hk] at HR;have hs:=hf s (ZB hi);have hd:=hf d (ZB hj);have HA:=Za (fun w=>nH s d c w hs hd hk);have HO:Hid (((w.alloc (.cells (cellsP ((i:Int),(j:Int))) 281)).alloc (.cells (Zk c) 24)).ownsRow 0 63 7 (.slice (some ⟨g,0,none⟩) l.length cp) l.length (XD l)):=Za (K9 hO (fun k hk=>by
  simp only [Y4,Qk] at hk;subst hk;exact T.out.2.2.block _ hgw))
 have HIJ:=Za (Zh hi (Zh hj KF));have Fz:=(Zi.1 hi).1;have DW:=(Zi.1 hj).1;obtain ⟨n,hn⟩ : ∃n,l.length=n:=⟨_,rfl⟩;have HN:=Za hn;rw [hn] at HR Fz DW ⊢;simp only at HR;clear hO hi hj KF hk hs hd hf hn;go_enter Tryz.func299,Tryz.ntmps299;go_upto_region 1 with (fail);generalize (w.alloc (.cells (cellsP ((i:Int),(j:Int))) 281)).alloc (.cells (Zk c) 24)=W at*;have x0:W.cell? ⟨w.heap.size,0,none⟩=some (.int .i64 (i:Int)):=T.out.1.cell 0;have x1:W.cell? ⟨w.heap.size,1,none⟩=some (.int .i64 (j:Int)):=T.out.1.cell 1;go_quiet (fail);have T1:Hid (AX w (W.drewN nq) ((i:Int),(j:Int)) c):=Za ⟨T.out.1,T.out.2.1,below_drewN T.out.2.2 nq⟩;have O1:Hid ((W.drewN nq).ownsRow 0 63 7 (.slice (some ⟨g,0,none⟩) l.length cp) l.length (XD l)):=Za HO.out;clear T HO x0 x1;generalize W.drewN nq=w1 at*;go_wp2_with (first | (refine Zn rfl 24 _ rfl (w.heap.size+1) rfl 24 _ (0,0) _ T1.out.2.1 ZC rfl XG ?_));refine (HR.out _ (EY O1.out (fun _ _ h=>h))).mono ?_;rintro e w2 ⟨rfl,b2⟩;have g1:g < w1.heap.size:=(O1.out.lt g rfl).2;have T2:=Za (T1.out.next b2);have O2:Hid (w2.ownsRow 0 63 7 (.slice (some ⟨g,0,none⟩) l.length cp) l.length (XD l)):=Za (K9 O1.out (fun k hk=>by
  simp only [Y4,Qk] at hk;subst hk;exact b2.block _ g1))
 clear b2 T1 O1 HR;go_wp2_with fail;have k1: ¬(i:Int)< 0:=by omega
 have k2: ¬(n:Int)≤(i:Int):=by omega
 have k3:(i:Int)< (n:Int):=by omega
 have m1: ¬(j:Int)< 0:=by omega
 have m2: ¬(n:Int)≤(j:Int):=by omega
 have m3:(j:Int)< (n:Int):=by omega
 have R2:Hid (w2.drew.rangeAt g (i*7) s.row∧w2.drew.rangeAt g (j*7) d.row∧Blk w2.drew (w.heap.size+1) 24 (Zk c)):=Za (by
  have hL:=EY (S:=fun _=>False) O2.out (fun _ _ h=>h);obtain ⟨b,o,e1,r1⟩:=hL.at HIJ.out.1;obtain ⟨b',o',e2,r2⟩:=hL.at HIJ.out.2.1;injection e1 with e1;injection e1 with e1 e3 _;injection e2 with e2;injection e2 with e2 e4 _;subst e1 e2 e3 e4;rw [Nat.zero_add] at r1 r2;exact ⟨r1,r2,T2.out.2.1⟩)
 have G2:Hid (g < w2.drew.heap.size):=Za (O2.out.lt g rfl).2;refine Pu (fun w'=>Blk w' (w.heap.size+1) 24 (Zk c)) 11 [0,1,2,3,4,5,6,8,9,10,12] R2.out.2.2 ?_;refine Kg ?_;show wpQuiet _ _ _ _ [_,_,_,_,_,_,_,_,_,_,_] _;iterate 10 (go_big_quiet_step ((intros; rfl)))
 refine Jw 24 _ (w.heap.size+1) 24 (Zk c) _ rfl rfl rfl (fun w' h=>h) ZC rfl XG ?_;refine Qe ?_;refine Qc ?_;refine UQ (i:=7) (k:=11) Ye (of_decide_eq_true Ye) (of_decide_eq_true Ye) ?_ ?_
 ·refine YD rfl rfl (wp_load_mid 63 _ rfl g (i*7) rfl s.row _ R2.out.1 Zr rfl Ym ?_);refine ⟨R2.out.2.2,?_⟩;refine Dg ?_;refine Di (i:=11) Ye (of_decide_eq_true Ye) ?_;refine YD rfl rfl (wp_load_mid 63 _ rfl g (j*7) rfl d.row _ R2.out.2.1 Zr rfl Ym ?_);exact zT5
 ·refine YD rfl rfl (wp_load_mid 63 _ rfl g (j*7) rfl d.row _ R2.out.2.1 Zr rfl Ym ?_);refine ⟨R2.out.2.2,?_⟩;refine Dg ?_;refine Di (i:=7) Ye (of_decide_eq_true Ye) ?_;refine YD rfl rfl (wp_load_mid 63 _ rfl g (i*7) rfl s.row _ R2.out.1 Zr rfl Ym ?_);exact zT5
theorem bM (a:Option Addr)(l:List Yd)(cp:Nat)(p:Int × Int)(c:Nat→Int)(w:Zc)(hO:w.ownsRow 0 63 7 (.slice a l.length cp) l.length (XD l))(hf: ∀v ∈ l,Yo v) :
  Zj Zb 299 #[.agg (cellsP p),.slice a l.length cp,.agg (Zk c)] w fun e w'=>e= .returned (.bool (decide (DO l p (c 6)=0)))∧
   w'.ownsRow 0 63 7 (.slice a l.length cp) l.length (XD (UX l p (c 6)))∧Kept (fun k=>(Yj a l.length cp).ownBlock=some k) w w':=by
 by_cases h:DO l p (c 6)=0
 ·rw [decide_eq_true h,show UX l p (c 6)=Sz l p.1.toNat p.2.toNat from if_pos h];obtain ⟨i,j,s,d,rfl,KF,hi,hj,hk⟩:=fF h;have Fz:=(Zi.1 hi).1;simp only [Sz,Int.toNat_natCast,VT hi,VT hj];obtain ⟨g,rfl⟩ : ∃g,a=some ⟨g,0,none⟩:=by
   rcases hO.2 with ⟨_,h0⟩ | ⟨g,BB,cur,h1,_⟩
   ·omega
   ·injection h1 with h1 _ _;exact ⟨g,h1⟩
  exact (fm g l cp i j s d c w hO hf hi hj KF hk).mono fun e w' ⟨he,ho,k⟩=>⟨he,ho,k.more (fun i _ e=>by subst e; rfl)⟩
 ·rw [decide_eq_false h,show UX l p (c 6)=l from if_neg h];exact (fk (fun _=>False) a l cp p c w (EY hO (fun _ _ h=>h)) hf h).mono fun e w' ⟨he,hb⟩=>⟨he,K9 hO (fun k hk=>hb.block k (hO.lt k hk).2),Kept.of_below hb⟩
end
section
open Go Go.RowKit Go.Deep
def Gc (L:List Bool) :Array Zl:=(L.map Value.bool).toArray
theorem eN (n:Nat) :madeCells #[.bool false] n=Gc (Zy n false):=by
 apply Array.ext
 ·simp [madeCells,Gc]
 ·intro i h1 h2;simp [madeCells,Nat.mod_one,Gc]
theorem jV: ∃i,Tryz.prog.info? 4=some i∧i.zero=some (.bool false)∧i.size=1∧i.bytes=1:=by
 have h:(Tryz.prog.info? 4).map (fun i=>(i.zero,i.size,i.bytes))=some (some (.bool false),1,1):=by kernel_rfl
 cases hi:Tryz.prog.info? 4 with
 | none=>rw [hi] at h; cases h
 | some i=>
  rw [hi] at h;simp at h;exact ⟨i,rfl,h.1,h.2.1,h.2.2⟩
theorem Lm (n:Nat)(hn:n≤100000)(w:Zc) :
  (Instr.makeSlice 177 (.int .i64 (n:Int)) (.int .i64 (n:Int))).run Zb w= .ok (.slice (some ⟨w.heap.size,0,none⟩) n n) (w.alloc (.cells (Gc (Zy n false)) 4)):=by
 obtain ⟨i,hi,hz,hs,LJ⟩:=jV;have Dw:=QZ (P:=Zb) 177 4 i _ Tryz.underlying177 hi hz .i64 .i64 n n (Zg _) TI Ze w;rw [hs,Nat.mul_one] at Dw;have td:(Value.bool false).cells= #[.bool false]:=rfl;rw [td,eN] at Dw;exact Dw
theorem jY {L:List Bool}{i:Nat}(hi:i < L.length) :(Gc L)[i]?=some (.bool (L.getD i false)):=by
 rw [Gc,List.getElem?_toArray,List.getElem?_map,List.getD_eq_getElem?_getD,Zf hi];rfl
theorem dy (L:List Bool)(i:Nat)(b:Bool) :(Gc L).setIfInBounds i (.bool b)=Gc (L.set i b):=by
 simp [Gc,List.map_set]
def Pw (w:Zc)(g:Nat)(L:List Bool) :Prop:=Blk w g 4 (Gc L)
theorem Pw.cell {w:Zc}{g:Nat}{L:List Bool}(h:Pw w g L){i:Nat}(hi:i < L.length) :w.cell? ⟨g,i,none⟩=some (.bool (L.getD i false)):=(Blk.cell h i).trans (jY hi)
theorem Pw.frozen {w:Zc}{g:Nat}{L:List Bool}(h:Pw w g L)(i:Nat) :w.frozen? ⟨g,i,none⟩=false:=Blk.frozen h i
theorem Pw.set {w:Zc}{g:Nat}{L:List Bool}(h:Pw w g L)(i:Nat)(b:Bool) :Pw (w.setCell ⟨g,i,none⟩ (.bool b)) g (L.set i b):=by
 have:=Blk.set_ h i (.bool b);rw [dy] at this;exact this
theorem Pw.below {w w':Zc}{g:Nat}{L:List Bool}(h:Pw w g L)(hb:Zs w.heap.size w w') :Pw w' g L:=Blk.below h hb (Blk.lt h)
end
section
open Go Go.RowKit Go.Deep
def BJ (c:Nat→Int)(q:List (Int × Int)) :Nat:=min (c 17).toNat q.length
def Ed (mb:Int)(l:List Yd)(q:List (Int × Int))(k m:Nat) :List Bool:=F7 mb l (q.take k)++Zy (m - k) false
theorem l7 (mb:Int)(l:List Yd)(q:List (Int × Int))(m:Nat) :Ed mb l q 0 m=Zy m false:=by simp [Ed,F7]
theorem q5 (mb:Int)(l:List Yd)(q:List (Int × Int)){k m:Nat}(hk:k≤m)(hm:m≤q.length) :(Ed mb l q k m).length=m:=by
 simp only [Ed,List.length_append,Av,Xl,List.length_replicate];omega
theorem l6 (mb:Int)(l:List Yd)(q:List (Int × Int)){k m:Nat}{p:Int × Int}(hp:q[k]?=some p)(hk:k < m)(hm:m≤q.length) :
  (Ed mb l q k m).set k (decide (DO (Ki mb l (q.take k)) p mb=0))=Ed mb l q (k+1) m:=by
 have hl:(F7 mb l (q.take k)).length=k:=by rw [Av,Xl]; omega
 unfold Ed;rw [List.set_append,hl,if_neg Ze,Nat.sub_self,Tu hp,fT,show m - k=(m -(k+1))+1 by omega,List.replicate_succ,List.set_cons_zero];simp
theorem q4 (mb:Int)(l:List Yd)(q:List (Int × Int))(m:Nat) :Ed mb l q m m=F7 mb l (q.take m):=by simp [Ed]
theorem iO {w:Zc}{B n:Nat}{e:TypeId}{sz:Nat}{v:Zl}{xs:List Zl}(h:w.ownsRow 0 e sz v n xs)(hB: ∀k,v.ownBlock=some k→B≤k) :w.ownsRow B e sz v n xs:=by
 exact zq
def Rw (w wr:Zc)(v:Zl)(n g:Nat)(L:List Yd)(B:List Bool)(c:Nat→Int) :Prop:=
 wr.ownsRow (w.heap.size+1) 63 7 v n (XD L)∧Pw wr g B∧v.ownBlock≠some g∧w.heap.size < g∧Blk wr w.heap.size 24 (Zk c)∧Zs w.heap.size w wr
theorem cC (a b:Option Addr)(cp cq:Nat)(l:List Yd)(q:List (Int × Int))(c:Nat→Int)(w:Zc)(hL:Fm w (fun _=>False) a l)(hq:dh w (fun _=>False) b q)(hf: ∀v ∈ l,Yo v)(h17:0≤c 17)(hl:l.length≤4096)(hql:q.length≤4096) :
  Zj Zb 264 #[.slice a l.length cp,.slice b q.length cq,.agg (Zk c)] w fun e w'=> ∃v g,e= .returned (.tuple #[v,.slice (some ⟨g,0,none⟩) (BJ c q) (BJ c q)])∧
   w'.ownsRow w.heap.size 63 7 v l.length (XD (Ki (c 6) l (q.take (BJ c q))))∧Pw w' g (F7 (c 6) l (q.take (BJ c q)))∧v.ownBlock≠some g∧w.heap.size≤g∧Zs w.heap.size w w':=by
 obtain ⟨m,hm⟩ : ∃m,BJ c q=m:=⟨_,rfl⟩;have hmq:m≤q.length:=by rw [←hm]; exact Nat.min_le_right _ _
 have kR:min (c 17) (q.length:Int)=(m:Int):=by rw [←hm]; unfold BJ; omega
 have cX:max (0:Int) (m:Int)=(m:Int):=by omega
 rw [hm];have hm60:m≤4096:=by omega
 have Dw:=fun w=>Lm m Ze w
 have hB:Blk (w.alloc (.cells (Zk c) 24)) w.heap.size 24 (Zk c):=Zv _ _ _;have b0:Zs w.heap.size w (w.alloc (.cells (Zk c) 24)):=(Zp _ _).alloc (Zg _) _;have HB:=Za (Zh hB b0);have HC:=Za (Od (fun _=>False) a cp l (w.alloc (.cells (Zk c) 24)) (hL.below b0) Ze);have HQ:=Za hq;have HF:=Za (fun k=>Tp (c 6) (q.take k) l hf);have HS:Hid ((w.alloc (.cells (Zk c) 24)).heap.size=w.heap.size+1):=Za ZI;obtain ⟨n,hn⟩ : ∃n,l.length=n:=⟨_,rfl⟩;obtain ⟨nq,vk⟩ : ∃nq,q.length=nq:=⟨_,rfl⟩;rw [hn] at HC ⊢;rw [vk] at kR hmq ⊢;have HN:=Za (Zh hn vk);clear hB b0 hL hq hf hm hn vk;go_enter Tryz.func264,Tryz.ntmps264;go_upto_region 1 with (fail);generalize w.alloc (.cells (Zk c) 24)=W at*;go_wp2_with fail;refine HC.out.mono ?_;rintro e w1 ⟨v,rfl,ho,b1⟩;have x17:w1.cell? ⟨w.heap.size,17,none⟩=some (.int .i64 (c 17)):=(HB.out.1.below b1 HB.out.1.lt).cell 17;have H1:Hid (w1.ownsRow (w.heap.size+1) 63 7 v n (XD l)∧Blk w1 w.heap.size 24 (Zk c)∧Zs w.heap.size w w1):=Za ⟨HS.out▸ho,HB.out.1.below b1 HB.out.1.lt,HB.out.2.trans (b1.mono HB.out.2.size)⟩;clear ho b1 HB HC HS;go_upto_region 3 with (fail);have A0:Hid (Rw w (w1.alloc (.cells (Gc (Zy m false)) 4)) v n w1.heap.size (Ki (c 6) l (q.take 0)) (Ed (c 6) l q 0 m) c):=by
  rw [l7];refine Za ⟨World.ownsRow.alloc H1.out.1 _,Zv _ _ _,fun e=>?_,?_,H1.out.2.1.alloc _,H1.out.2.2.alloc H1.out.2.2.size _⟩
  ·have:=(H1.out.1.lt _ e).2;omega
  ·have:=H1.out.2.1.lt;exact this
 have HV:Hid (∃a' BB,v= .slice a' n BB∧ ∀k,v.ownBlock=some k→w.heap.size < k):=Za (by
  obtain ⟨a',BB,e,-,-⟩:=UB (GV H1.out.1 (XL _));exact ⟨a',BB,e,fun k hk=>by have:=(H1.out.1.lt k hk).1; omega⟩)
 clear H1 x17 Dw kR cX;obtain ⟨a',BB,hv,hvk⟩:=HV.out;have HVK:=Za hvk;clear HV hvk;subst hv;generalize w1.alloc (.cells (Gc (Zy m false)) 4)=W2 at*;generalize w1.heap.size=g at*;go_wp2;go_loopw [22] (fun s22 wr=> ∃k:Nat,k≤m∧s22= .int .i64 k∧Hid (Rw w wr (.slice a' n BB) n g (Ki (c 6) l (q.take k)) (Ed (c 6) l q k m) c)) (fun s22 _=>m -(intOf s22).toNat)
 case atStart=>exact ⟨0,by omega,rfl,A0⟩
 case round=>
  obtain ⟨k,hk,rfl,HA⟩:=hrel;clear A0
  by_cases XP:k < m
  ·obtain ⟨p,hp⟩ : ∃p,q[k]?=some p:=⟨_,Zf (by have:=HN.out; omega)⟩;obtain ⟨qb,qo,rfl,hrp⟩:=(HQ.out.below HA.out.2.2.2.2.2).at hp;have hqb:qb < w.heap.size:=by
    obtain ⟨b,off,h1,h2,h3,h4⟩:=HQ.out (by have:=HN.out; omega);injection h1 with h1;injection h1 with h1;omega
   have HP:=Za hp;have HR:=Za (Zh hrp (Zh hqb hmq));have k1: ¬(k:Int)< 0:=by omega
   have k2: ¬(nq:Int)≤(k:Int):=by omega
   have k3:(k:Int)< (nq:Int):=by omega
   have j2: ¬(m:Int)≤(k:Int):=by omega
   have j3:(k:Int)< (m:Int):=by omega
   clear hp hrp hqb;go_upto_region 6 with (fail);refine M0 (fun w'=>w'.rangeAt qb (qo+k*2) (JE p)∧Blk w' w.heap.size 24 (Zk c)) 9 1 [0,1,2,3,4,5,6,7] ⟨HR.out.1,HA.out.2.2.2.2.1⟩ ?_;refine Kg ?_;show wpQuiet _ _ _ _ [_,_,_,_,_,_,_,_] _;refine TJ ?_;refine BH 73 _ qb (qo+k*2) p _ rfl rfl rfl (fun w' h=>h.1) Tryz.underlying73 rfl Bf ?_;refine Qe ?_;refine GN ?_;refine Jw 24 _ w.heap.size 24 (Zk c) _ rfl rfl rfl (fun w' h=>h.2) ZC rfl XG ?_;refine Qe ?_;refine Qc ?_;refine hfO (i:=8) ?_;have HL:Hid ((Ki (c 6) l (q.take k)).length=n):=Za (by rw [OC]; exact HN.out.1);have HPF:=Za (HL.out▸bM a' (Ki (c 6) l (q.take k)) BB p c wr.drew (by rw [HL.out]; exact GV HA.out.1 (XL _)) (HF.out k) :Zj Zb 299 #[.agg (cellsP p),.slice a' n BB,.agg (Zk c)] wr.drew fun e w'=>e= .returned (.bool (decide (DO (Ki (c 6) l (q.take k)) p (c 6)=0)))∧
    w'.ownsRow 0 63 7 (.slice a' n BB) n (XD (UX (Ki (c 6) l (q.take k)) p (c 6)))∧Kept (fun i=>(Yj a' n BB).ownBlock=some i) wr.drew w')
   refine JZ #[.agg (cellsP p),.slice a' n BB,.agg (Zk c)] Tryz.call299 (HPF.out.mono ?_);rintro e w2 ⟨rfl,ho,kp⟩;have A2:Hid (Rw w w2 (.slice a' n BB) n g (Ki (c 6) l (q.take (k+1))) (Ed (c 6) l q k m) c):=by
    obtain ⟨h1,h2,h3,h4,h5,h6⟩:=HA.out;have kp':Kept (fun i=>(Yj a' n BB).ownBlock=some i) wr w2:=(Kept.refl _ wr).drew.trans kp (fun _ _ h=>h);rw [Tu HP.out,fU];refine Za ⟨iO ho (fun i hi=>HVK.out i hi),Blk.kept h2 kp' (fun e=>h3 e),h3,h4,h5.kept kp' (fun e=>?_),Kept.below h6.drew kp (fun i hi=>Nat.le_of_lt (HVK.out i hi)) h6.size⟩;have:=HVK.out _ e;omega
   have R2:Hid (w2.rangeAt qb (qo+k*2) (JE p)):=Za (QX HR.out.1 (kp.block qb (Ya HR.out.2.1 HA.out.2.2.2.2.2.size) (fun e=>by
    have:=HVK.out _ e;have:=HR.out.2.1;omega)))
   clear ho kp HPF HL HA;have LB:=q5 (c 6) l q (k:=k) (m:=m) Ze (by rw [HN.out.2]; exact hmq);have z1:w2.cell? ⟨g,k,none⟩=some (.bool ((Ed (c 6) l q k m).getD k false)):=A2.out.2.1.cell Ze;have z2:w2.frozen? ⟨g,k,none⟩=false:=A2.out.2.1.frozen k;have SN:=Za (l6 (c 6) l q (k:=k) (m:=m) HP.out XP (by rw [HN.out.2]; exact hmq));clear LB;generalize decide (DO (Ki (c 6) l (q.take k)) p (c 6)=0)=r at*;refine ⟨_,rfl,⟨R2.out,A2.out.2.2.2.2.1⟩,?_⟩;refine Bn ?_;refine ⟨by kernel_rfl,?_⟩;refine LY ?_;go_wp2;refine GM ?_;have A3:Hid (Rw w (w2.setCell ⟨g,k,none⟩ (.bool r)) (.slice a' n BB) n g (Ki (c 6) l (q.take (k+1))) (Ed (c 6) l q (k+1) m) c):=by
    obtain ⟨h1,h2,h3,h4,h5,h6⟩:=A2.out;rw [←SN.out];refine Za ⟨iO (K9 (GV h1 (XL _)) (fun i hi=>Below.heap_setCell w2 _ _ i (fun e=>h3 (by rw [hi]; exact congrArg some e)))) (fun i hi=>HVK.out i hi),h2.set k r,h3,h4,h5.far LD _,h6.setCell LD _⟩
   clear A2 z1 z2 R2;generalize w2.setCell ⟨g,k,none⟩ (.bool r)=w3 at*;go_wp2;go_roundw
   case rel=>exact ⟨k+1,by omega,by go_num,A3⟩
   case measure=>exact Bl
  ·obtain rfl:k=m:=by omega
   have HZ:Hid (Rw w wr (.slice a' n BB) n g (Ki (c 6) l (q.take k)) (F7 (c 6) l (q.take k)) c):=by
    have:=HA.out;rw [q4] at this;exact Za this
   clear HA XP;have XP: ¬k < k:=by omega
   go_wp2;go_ret2;obtain ⟨h1,h2,h3,h4,h5,h6⟩:=HZ.out;exact ⟨_,_,rfl,GV h1 Ze,h2,h3,by omega,h6⟩
end
section
open Go Go.RowKit
structure IB (c:Nat→Int) :Prop where
 ub0:0≤c 10
 ub1:c 10≤1048576
 sd0:0≤c 11
 sd1:c 11≤1048576
 num0:0≤c 18
 num1:c 18≤c 19
 den0:1≤c 19
 den1:c 19≤4294967296
theorem Cp {c:Nat→Int}(hf:AQ c)(h:RU c=0) :IB c:=by
 rcases Oc c with ⟨_,hb⟩ | ⟨k,_,_,_,e⟩
 ·have TQ:=VE (hb 10 Ze);have UP:decide (c 10 < c 11∧c 11≤1048576)=true:=hb 11 Ze;have h18:decide (c 18≤c 19)=true:=hb 18 Ze;have h19:=VE (hb 19 Ze);have f18:(Lit.int .u64 (c 18)).wf=true:=hf 18 Ze;simp at UP h18;exact ⟨by omega,TQ.2,by omega,UP.2,(bounds_u64 f18).1,h18,h19.1,h19.2⟩
 ·omega
def penQ (v:Yd)(c:Nat→Int) :Int:=(amQ v.bal.toNat (c 18).toNat (c 19).toNat:Nat)
def qC (v:Yd)(c:Nat→Int) :Bool:=ue v.bal.toNat (c 18).toNat (c 19).toNat
theorem LN {v:Yd}(c:Nat→Int)(hv:Yo v) :0≤penQ v c∧penQ v c≤v.bal:=by
 have:=Zal v.bal.toNat (c 18).toNat (c 19).toNat;have h:=hv.bal;unfold penQ;omega
theorem Aj {v:Yd}{c:Nat→Int}(hv:Yo v)(hc:IB c)(w:Zc) :
  Zj Zb 189 #[.int .u64 v.bal,.int .u64 (c 18),.int .u64 (c 19)] w fun o w'=>o= .returned (.tuple #[.int .u64 (penQ v c),.bool (qC v c)])∧Zs w.heap.size w w':=by
 have h:=dr v.bal.toNat (c 18).toNat (c 19).toNat w (by have:=hv.bal; omega) (by have:=hc.num1; have:=hc.den1; omega) (by have:=hc.den1; omega);rw [Int.toNat_of_nonneg hv.bal.1,Int.toNat_of_nonneg hc.num0,Int.toNat_of_nonneg (show 0≤c 19 by have:=hc.den0; omega)] at h;exact h
def LU (v:Yd)(e:Int)(c:Nat→Int) :Int × Yd:=QA (Vs v e (c 11)) { v with bal:=v.bal - penQ v c}
def tf (v:Yd)(e:Int)(c:Nat→Int) :Int:=if(LU v e c).1=0 then penQ v c else 0
theorem mc {v:Yd}(e:Int){c:Nat→Int}(w:Zc)(hv:Yo v)(hc:IB c) :
  Zj Zb 126 #[.agg (Zd v),.int .i64 e,.agg (Zk c)] w fun o w'=>o= .returned (RE (LU v e c) (tf v e c))∧Zs w.heap.size w w':=by
 obtain ⟨p0,p1⟩:=LN c hv
 by_cases h:v.st=2
 ·have:=C4 v e (penQ v c) (qC v c) c w hv.2 hc.sd0 hc.sd1 p0 p1 hv.bal.2 Ir (Aj hv hc);rwa [show ([Ua,Qu 7,Q9 e (c 11),Xw e] :List M3)=Vs v e (c 11) from (if_pos h).symm] at this
 ·have:=cn v e (penQ v c) (qC v c) c w hv.2 hc.sd0 hc.sd1 p0 p1 hv.bal.2 Ir (Aj hv hc);rwa [show ([Ua,Qu 7,Q9 e (c 11)] :List M3)=Vs v e (c 11) from (if_neg h).symm] at this
theorem bY: ∀(es:List M3) (x:Yd),(∀e ∈ es,∀x,(e x).2.bal=x.bal)→(QA es x).1=0→(QA es x).2.bal=x.bal
 | [],x,_,_=>rfl
 | e::es,x,h,h0=>by
  unfold QA at h0 ⊢
  split at h0
  ·rename_i hc
   rw [if_pos hc,bY es _ (fun e he=>h e (by simp [he])) h0];exact h e ZI x
  ·rename_i hc
   exact absurd h0 hc
theorem At {v:Yd}(e:Int)(c:Nat→Int)(h:(LU v e c).1=0) :(LU v e c).2.bal+tf v e c=v.bal:=by
 have k:=bY (Vs v e (c 11)) { v with bal:=v.bal - penQ v c} (fun f hf x=>by
  have hm: ∀x,(Ua x).2.bal=x.bal:=fun x=>by unfold Ua; split <;> rfl
  have hp: ∀x,(Qu 7 x).2.bal=x.bal:=fun x=>by unfold Qu; split <;> rfl
  have hh: ∀x,(Q9 e (c 11) x).2.bal=x.bal:=fun x=>by unfold Q9; split <;> rfl
  have hr: ∀x,(Xw e x).2.bal=x.bal:=fun x=>by unfold Xw; split <;> rfl
  unfold Vs at hf
  split at hf
  ·simp only [ZY,Yf,or_false] at hf
   rcases hf with rfl | rfl | rfl | rfl
   ·exact hm x
   ·exact hp x
   ·exact hh x
   ·exact hr x
  ·simp only [ZY,Yf,or_false] at hf
   rcases hf with rfl | rfl | rfl
   ·exact hm x
   ·exact hp x
   ·exact hh x) h
 unfold tf LU at*;rw [if_pos h,k];simp only;omega
theorem Tn {v:Yd}{e:Int}{c:Nat→Int}(hv:Yo v)(h:(LU v e c).1=0) :Yo (LU v e c).2:=by
 have hb:=At e c h;obtain ⟨p0,p1⟩:=LN c hv;have hbv:=hv.bal;have hn:tf v e c=penQ v c:=by unfold tf; rw [if_pos h]
 have hwf: ∀x:Int,0≤x→x≤18446744073709551615→(Lit.int .u64 x).wf=true:=fun x h0 h1=>by
  exact rX
 refine ⟨hwf _ Ze Ze,?_⟩;unfold LU at*;rw [show Vs v e (c 11)=Vs { v with bal:=v.bal - penQ v c} e (c 11) from rfl] at h ⊢
 by_cases h1:v.sl=true
 ·exact r7
 ·have h1:v.sl=false:=by simpa using h1
  by_cases h2:JC v.st 7=0
  ·exact rY
  ·by_cases h3:O8 e (c 11)
   ·rw [q9 (v:= { v with bal:=v.bal - penQ v c}) h1 h2 h3];exact CS v.st 7
   ·exact rW
end
end Go.Proofs.YtianiiijaopdpaaGreat
