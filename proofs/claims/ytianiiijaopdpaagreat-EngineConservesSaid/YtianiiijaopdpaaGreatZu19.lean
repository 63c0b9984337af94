/- Part 19 of 58: L04TwoDuo L04TwoReq. -/
import Derived.Test.YtianiiijaopdpaaGreatZu00
import Derived.Test.YtianiiijaopdpaaGreatZu09
import Derived.Test.YtianiiijaopdpaaGreatZu15
namespace Go.Proofs.YtianiiijaopdpaaGreat
set_option linter.unusedVariables false
set_option linter.unusedSimpArgs false
set_option maxRecDepth 100000
set_option maxHeartbeats 8000000
open _root_.Go.RowKit renaming Below → Zt
open _root_.Go.RowKit.Below renaming refl → Zr
open _root_.Go.Proofs.YtianiiijaopdpaaGreat.Zy renaming drewN → Xz, far → Ju, kept → QR, new → Zw, setRow → QS
open _root_.Go.Builtin renaming zeroCells → Xb
open _root_.Go renaming Calls → Zi, Value → Zo, World → Zc, bodyPost_ret → ZL, wpList_store_row → Zm, wpQuiet_nil → Zj
open _root_.Go.Calls renaming quiet_of → Qv
open _root_.Go.Proofs.YtianiiijaopdpaaGreat.Kept renaming of_below → Y4
open _root_.Go.Lib renaming cell?_alloc_some → QT, hid → Za
open _root_.List renaming mem_cons_of_mem → KQ
open _root_.Nat renaming le_refl → Zg
open _root_.Ne renaming symm → QA
open _root_.Go.Proofs.Tryz renaming prog → Zb, underlying73 → X5, underlying75 → Ye
open _root_.Go.Value renaming cells → Yv
open _root_.Go.World renaming setRow_alloc_new → Zu
theorem Zgf {G:Prop} (h:G:=by
  rw [B2.cell,←hp];have:=hw.get hy;have e:(f*2+(i*2+1))%(n*2)=(f+i)%n*2+1:=by
   rw [show f*2+(i*2+1)=(f+i)*2+1 by omega]
   rcases yy (N:=n) (s:=f+i) Zp with ⟨h1,h2⟩ | ⟨h1,h2⟩
   ·rw [h2,Nat.mod_eq_of_lt Zp]
   ·rw [h2,Nat.mod_eq_sub_mod Zp,Nat.mod_eq_of_lt Zp]; omega
  rw [hC,e] at this;simpa using this) :G:=h
theorem Zgh {G:Prop} (h:G:=by
  have Ds:(f*2)+Z.length≤C.length:=by have:=HC.out; omega
  have:=AD (C':=splice C (f*2) Z) HW.out ZO HC.out (length_splice _ _ _ Ds) (fun p hp=>by
   rw [Bx _ _ _ Ds]
   by_cases h1:p < (f*2)
   ·rw [if_pos h1]
   ·rw [if_neg h1,if_neg Zp])
  rw [tE.out] at this;exact this) :G:=h
theorem Zgj {G:Prop} (h:G:=by
  refine Kept.setRow (S:=fun i=>i=b∨i=g) (Kept.setCell (S:=fun i=>i=b∨i=g) (Kept.setCell (S:=fun i=>i=b∨i=g) ?_ (.inl (.inl rfl)) _) (.inl (.inl rfl)) _) (.inr (Nat.le_refl _)) _;exact (((HKW.out.more (fun _ _ h=>h.elim)).drewN nr).trans LZ.out (fun _ _ h=> .inr h)).drewN q2) :G:=h
theorem Zgx {G:Prop} (h:G:=by
  rcases j with _ | _ | j
  ·injection hv with hv; subst hv; exact Lib.cell?_alloc_some _ Gl
  ·injection hv with hv; subst hv; exact Lib.cell?_alloc_some _ CO
  ·cases hv) :G:=h
theorem Zg7 {G:Prop} (h:G:=by
  rw [B2.cell,←hp];have:=hw.get hx;rw [hC,←Nat.add_mul,Nat.mul_mod_mul_right] at this;simpa using this) :G:=h
theorem Zak {G:Prop} (h:G:=by
  rcases Nat.lt_or_ge (i*2) F.length with h | h
  ·omega
  ·rw [List.getElem?_eq_none h] at hx; cases hx) :G:=h
section
open Go Go.RowKit Go.Deep
theorem Px {x y:Zo}(o1:x.oneCell'=true)(o2:y.oneCell'=true) :(#[x,y] :Array Zo).all (·.oneCell')=true:=by simp [o1,o2]
theorem gi (b g size n f c i:Nat)(C F:List Zo)(x y:Zo)(w:Zc)(hr:Jd 192 73 2 w b g size n f c C)(hw:Wheel C (f*2) F)(hF:F.length=c*2)(hx:F[i*2]?=some x)(hy:F[i*2+1]?=some y)(o1:x.oneCell'=true)(o2:y.oneCell'=true) :
  Zi Zb 326 #[.pointer (some ⟨b,0,none⟩),.int .i64 i] w fun e w'=>e= .returned (.tuple #[.agg #[x,y],.bool true])∧Zt w.heap.size w w':=by
 obtain ⟨-,d1,d2,d3,-,-,-⟩:=hr.cells;obtain ⟨B1,B2,hC,LH,SB,Nu,hs⟩:=hr;have hic:i < c:=by
  exact Zak
 have hi1: ¬(i:Int)< 0:=by omega
 have Uq: ¬(c:Int)≤(i:Int):=by omega
 obtain ⟨p,hp⟩ : ∃p:Nat,(f+i)%n=p:=⟨_,rfl⟩;have Nv:p < n:=by exact tw
 have Gl:w.cell? ⟨g,p*2,none⟩=some x:=by
  exact Zg7
 have CO:w.cell? ⟨g,p*2+1,none⟩=some y:=by
  exact Zgf
 have Vz: ∀W:Zc,W.cell? ⟨b,1,none⟩=some (.slice (some ⟨g,0,none⟩) n n)→W.cell? ⟨b,2,none⟩=some (.int .i64 f)→Zi Zb 202 #[.pointer (some ⟨b,0,none⟩),.int .i64 i] W fun e w'=>e= .returned (.int .i64 p)∧ ∃m,w'=W.drewN m:=fun W x1 x2=>by
  have:=r2_slot_any b n f i _ n W x1 x2 Zp Zp Zp;rwa [hp] at this
 have zE:=B2.lt;have Mf:=B1.lt;have hra:(w.alloc (.cells #[.int .i64 0,.int .i64 0] 73)).rangeAt g (p*2) [x,y]:=fun j v hv=>by
  exact Zgx
 have HRA:=Za hra;have I8:=Za Vz;have e1:=QT (.cells #[.int .i64 0,.int .i64 0] 73) d1;have e2:=QT (.cells #[.int .i64 0,.int .i64 0] 73) d2;clear Vz hp B1 B2 hC hw hF hx hy hra Gl CO;go_enter Tryz.func326,Tryz.ntmps326;go_wp2_with fail;refine (Tc _ c _ (QT _ d3)).mono ?_;rintro e w' ⟨rfl,rfl⟩;go_wp2;refine Bj 9 ?_;simp only [qT,qD];iterate 8 (go_big_quiet_step ((go_at_call 202; exact Qv (I8.out _ e1 e2))))
 refine Ig (.agg #[x,y]) rfl (fun W hW=>?_) ?_
 ·obtain ⟨q,rfl⟩:=hW;have hl:=run_loadAt_mid (P:=Zb) ((w.alloc (.cells #[.int .i64 0,.int .i64 0] 73)).drewN q) g (p*2) 73 [x,y] _ HRA.out X5 rfl Yi;unfold execOp;simp only [Act.eval,Sem.run_bind]
  erw [hl]
  rfl
 refine Zj ?_;intro _ Jw;obtain ⟨nr,Xl⟩:=Jw;subst Xl;refine Zm rfl _ _ _ rfl w.heap.size #[x,y] rfl rfl 73 _ (Xz (Zw w _ _) nr) Yi rfl (by simp [o1,o2]) ?_;have HB:Hid (Zy ((((w.alloc (.cells #[.int .i64 0,.int .i64 0] 73)).drewN nr)).setRow w.heap.size #[x,y]) w.heap.size 73 #[x,y]):=Za (QS (Xz (Zw w _ _) nr) _);have HL:Hid (Zt w.heap.size w ((((w.alloc (.cells #[.int .i64 0,.int .i64 0] 73)).drewN nr)).setRow w.heap.size #[x,y])):=Za (below_setRow (below_drewN ((Zr _ _).alloc (Zg _) _) nr) (Zg _) _);go_wp2;refine ZL (v:= .tuple #[.agg #[x,y],.bool true]) (XN (fn:=Tryz.f326) rfl _ _ w.heap.size 73 _ (0,0) _ rfl HB.out X5 rfl Yi) rfl ⟨rfl,HL.out⟩
theorem mG (b g size n f c:Nat)(C F:List Zo)(x y:Zo)(w:Zc)(hr:Jd 192 73 2 w b g size n f (c+1) C)(hw:Wheel C (f*2) (x::y::F))(hF:F.length=c*2)(o1:x.oneCell'=true)(o2:y.oneCell'=true) :
  Zi Zb 316 #[.pointer (some ⟨b,0,none⟩)] w fun e w'=>e= .returned (.tuple #[.agg #[x,y],.bool true])∧
   (∃f' C',Jd 192 73 2 w' b g size n f' c C'∧Wheel C' (f'*2) F)∧Kept (fun i=>i=b∨i=g) w w':=by
 have zN:=fun W (hW:Hid (Jd 192 73 2 W b g size n f (c+1) C))=>gi b g size n f (c+1) 0 C (x::y::F) x y W hW.out hw (by simp [hF]; omega) ZO ZO o1 o2
 have HR0:=Za hr;have hr0:=Za (hr.kept (S:=fun _=>False) ((Kept.refl _ w).alloc (.cells #[.int .i64 0,.int .i64 0] 73)) id id);obtain ⟨B1,B2,hC,LH,SB,Nu,hs⟩:=hr;have Mf:=B1.lt;have zE:=B2.lt;have dN:=Za zN;have Ei:=Za B1;have VW:=Za B2;have HC:=Za hC;have HW:=Za hw;have HF:=Za hF;obtain ⟨s,hsv⟩ : ∃s:Nat,(f+1)%n=s:=⟨_,rfl⟩;have DY:s < n:=by exact ts
 have Vz: ∀W:Zc,W.cell? ⟨b,1,none⟩=some (.slice (some ⟨g,0,none⟩) n n)→W.cell? ⟨b,2,none⟩=some (.int .i64 f)→Zi Zb 202 #[.pointer (some ⟨b,0,none⟩),.int .i64 1] W fun e w'=>e= .returned (.int .i64 s)∧ ∃m,w'=W.drewN m:=fun W x1 x2=>by
  have:=r2_slot_any b n f 1 _ n W x1 x2 Zp Zp Zp;rwa [hsv] at this
 have I8:=Za Vz;have tE:=Za hsv;clear Vz hsv zN B1 B2 hC hw hF;go_enter Tryz.func316,Tryz.ntmps316;go_wp2_with fail;refine (dN.out _ hr0).mono ?_;rintro e w1 ⟨rfl,hB⟩;have hz:w.heap.size+1≤w1.heap.size:=by have:=hB.size; simpa using this
 have hR:Zy w1 w.heap.size 73 #[.int .i64 0,.int .i64 0]:=Zy.below (Zw w _ _) hB ZO;have HB:Hid (Zt w.heap.size w w1):=Za (((Zr _ _).alloc (Zg _) _).trans (hB.mono ZO));have HR:=Za hR;clear hB hR;go_wp2_with (first
  | (refine Zm rfl _ _ _ rfl w1.heap.size #[x,y] rfl rfl 73 _ (Zw w1 _ _) Yi rfl (Px o1 o2) ?_; rw [Zu]))
 have jh:Kept (fun _=>False) w (w1.alloc (.cells #[x,y] 73)):=(Y4 HB.out).alloc _;obtain ⟨d0,d1,d2,d3,-,fz2,pJ⟩:=(HR0.out.kept jh id id).cells;have Ei:=Za (Ei.out.kept jh id);have VW:=Za (VW.out.kept jh id);have Za9:=Za (HR.out.alloc (.cells #[x,y] 73));have HX:=Za (Zw w1 73 #[x,y]);have HKW:=Za jh;have Du:w1.heap.size < (w1.alloc (.cells #[x,y] 73)).heap.size:=by simp
 clear jh HR HB;generalize w1.alloc (.cells #[x,y] 73)=w2 at*;refine Bj 14 ?_;simp only [qT,qD]
 repeat (go_big_quiet_step (fail))
 refine Zj ?_;intro _ Jw;obtain ⟨nr,Xl⟩:=Jw;subst Xl;refine Ex rfl (.tmp 27) _ rfl 73 Tryz.underlying48 (.agg #[.int .i64 0,.int .i64 0]) (fun _=>by kernel_rfl) Xh g (f*2) 1 (n - f) rfl Zp C 73 VW.out ik ?_;intro W1 HD1 K1;have Pd: ¬b=g:=Zy.ne_ Ei.out VW.out Xh;have EA:Hid (Zy W1 b 192 #[.int .i64 size,.slice (some ⟨g,0,none⟩) n n,.int .i64 f,.int .i64 ((c+1:Nat) :Int)]):=Za (QR (w:=w2.drewN nr) Ei.out K1 Pd);have x1:=EA.out.cell 1;have x2:=EA.out.cell 2;have x3:W1.cell? ⟨b,3,none⟩=some (.int .i64 ((c:Int)+1)):=EA.out.cell 3;have y2:=EA.out.frozen 2;have y3:=EA.out.frozen 3;have ou:=Za (QR (w:=w2.drewN nr) Za9.out K1 Zp);have dC:=Za (QR (w:=w2.drewN nr) HX.out K1 Zp);have LZ:=Za K1;clear K1 d0 d1 d2 d3 fz2 pJ;go_wp2_with fail;refine (I8.out _ x1 x2).mono ?_;rintro e w' ⟨rfl,q2,rfl⟩;have bz:w1.heap.size≠b:=by omega
 have e8:w.heap.size≠b:=by omega
 have uL:=Za (Ju (Ju (dC.out.drewN q2) (p:=⟨b,2,none⟩) bz (.int .i64 s)) (p:=⟨b,3,none⟩) bz (.int .i64 c));have I7:=Za (Ju (Ju (ou.out.drewN q2) (p:=⟨b,2,none⟩) e8 (.int .i64 s)) (p:=⟨b,3,none⟩) e8 (.int .i64 c));go_wp2_with (first
  | (refine wpList_load_row rfl _ _ rfl w1.heap.size rfl 73 #[x,y] (0,0) _ uL.out X5 rfl Yi ?_)
  | (refine Zm rfl _ _ _ rfl w.heap.size #[x,y] rfl rfl 73 _ I7.out Yi rfl (Px o1 o2) ?_))
 refine ZL (v:= .tuple #[.agg #[x,y],.bool true]) (XN (fn:=Tryz.f316) rfl _ _ w.heap.size 73 _ (0,0) _ rfl (QS I7.out _) X5 rfl Yi) rfl ?_;refine ⟨rfl,⟨s,_,⟨Zy.setRow_far ?_ (QA e8) _,Zy.setRow_far (Ju (Ju (HD1.out) (QA Pd) _) (QA Pd) _) Zp _,?_,DY,by omega,Nu,hs⟩,?_⟩,?_⟩
 ·exact ta
 ·exact sK
 ·have hZ:(Xb (Yv (.agg #[.int .i64 0,.int .i64 0])) 1).toList.length=2:=by simp [Xb,Yv]
  generalize (Xb (Yv (.agg #[.int .i64 0,.int .i64 0])) 1).toList=Z at*;exact Zgh
 ·exact Zgj
theorem mF (b size c:Nat)(go:Option Nat)(F:List Zo)(x y:Zo)(w:Zc)(hi:RingAt 192 73 2 w b go size (c+1) (x::y::F)) :
  Zi Zb 316 #[.pointer (some ⟨b,0,none⟩)] w fun e w'=>e= .returned (.tuple #[.agg #[x,y],.bool true])∧RingAt 192 73 2 w' b go size c F∧Kept (Foot b go) w w':=by
 obtain ⟨hF,hF1,⟨rfl,h0,_⟩ | ⟨g,n,f,C,rfl,h3,h4⟩⟩:=hi
 ·omega
 ·have hl:F.length=c*2:=by exact tt
  exact (mG b g size n f c C F x y w h3 h4 hl (hF1 _ ZO) (hF1 _ ZO)).mono fun e w' ⟨he,⟨f',C',k1,k2⟩,k3⟩=>
   ⟨he,k1.at_ k2 hl (fun x hx=>hF1 x (KQ _ (KQ _ hx))),k3.more fun i _ hi=>hi.elim .inl (fun e=> .inr (by rw [e]))⟩
end
section
open Go Go.RowKit Go.Deep
theorem PC {x y:Zo}(o1:x.oneCell'=true)(o2:y.oneCell'=true) :(#[x,y] :Array Zo).all (·.oneCell')=true:=by simp [o1,o2]
theorem gG (b g size n f c i:Nat)(C F:List Zo)(x y:Zo)(w:Zc)(hr:Jd 195 75 2 w b g size n f c C)(hw:Wheel C (f*2) F)(hF:F.length=c*2)(hx:F[i*2]?=some x)(hy:F[i*2+1]?=some y)(o1:x.oneCell'=true)(o2:y.oneCell'=true) :
  Zi Zb 318 #[.pointer (some ⟨b,0,none⟩),.int .i64 i] w fun e w'=>e= .returned (.tuple #[.agg #[x,y],.bool true])∧Zt w.heap.size w w':=by
 obtain ⟨-,d1,d2,d3,-,-,-⟩:=hr.cells;obtain ⟨B1,B2,hC,LH,SB,Nu,hs⟩:=hr;have hic:i < c:=by
  exact Zak
 have hi1: ¬(i:Int)< 0:=by omega
 have Uq: ¬(c:Int)≤(i:Int):=by omega
 obtain ⟨p,hp⟩ : ∃p:Nat,(f+i)%n=p:=⟨_,rfl⟩;have Nv:p < n:=by exact tw
 have Gl:w.cell? ⟨g,p*2,none⟩=some x:=by
  exact Zg7
 have CO:w.cell? ⟨g,p*2+1,none⟩=some y:=by
  exact Zgf
 have Vz: ∀W:Zc,W.cell? ⟨b,1,none⟩=some (.slice (some ⟨g,0,none⟩) n n)→W.cell? ⟨b,2,none⟩=some (.int .i64 f)→Zi Zb 207 #[.pointer (some ⟨b,0,none⟩),.int .i64 i] W fun e w'=>e= .returned (.int .i64 p)∧ ∃m,w'=W.drewN m:=fun W x1 x2=>by
  have:=Li b n f i _ n W x1 x2 Zp Zp Zp;rwa [hp] at this
 have zE:=B2.lt;have Mf:=B1.lt;have hra:(w.alloc (.cells #[.int .i64 0,.int .u64 0] 75)).rangeAt g (p*2) [x,y]:=fun j v hv=>by
  exact Zgx
 have HRA:=Za hra;have I8:=Za Vz;have e1:=QT (.cells #[.int .i64 0,.int .u64 0] 75) d1;have e2:=QT (.cells #[.int .i64 0,.int .u64 0] 75) d2;clear Vz hp B1 B2 hC hw hF hx hy hra Gl CO;go_enter Tryz.func318,Tryz.ntmps318;go_wp2_with fail;refine (Tu _ c _ (QT _ d3)).mono ?_;rintro e w' ⟨rfl,rfl⟩;go_wp2;refine Bj 9 ?_;simp only [qT,qD];iterate 8 (go_big_quiet_step ((go_at_call 207; exact Qv (I8.out _ e1 e2))))
 refine Ig (.agg #[x,y]) rfl (fun W hW=>?_) ?_
 ·obtain ⟨q,rfl⟩:=hW;have hl:=run_loadAt_mid (P:=Zb) ((w.alloc (.cells #[.int .i64 0,.int .u64 0] 75)).drewN q) g (p*2) 75 [x,y] _ HRA.out Ye rfl Yi;unfold execOp;simp only [Act.eval,Sem.run_bind]
  erw [hl]
  rfl
 refine Zj ?_;intro _ Jw;obtain ⟨nr,Xl⟩:=Jw;subst Xl;refine Zm rfl _ _ _ rfl w.heap.size #[x,y] rfl rfl 75 _ (Xz (Zw w _ _) nr) Yi rfl (by simp [o1,o2]) ?_;have HB:Hid (Zy ((((w.alloc (.cells #[.int .i64 0,.int .u64 0] 75)).drewN nr)).setRow w.heap.size #[x,y]) w.heap.size 75 #[x,y]):=Za (QS (Xz (Zw w _ _) nr) _);have HL:Hid (Zt w.heap.size w ((((w.alloc (.cells #[.int .i64 0,.int .u64 0] 75)).drewN nr)).setRow w.heap.size #[x,y])):=Za (below_setRow (below_drewN ((Zr _ _).alloc (Zg _) _) nr) (Zg _) _);go_wp2;refine ZL (v:= .tuple #[.agg #[x,y],.bool true]) (XN (fn:=Tryz.f318) rfl _ _ w.heap.size 75 _ (0,0) _ rfl HB.out Ye rfl Yi) rfl ⟨rfl,HL.out⟩
theorem mN (b g size n f c:Nat)(C F:List Zo)(x y:Zo)(w:Zc)(hr:Jd 195 75 2 w b g size n f (c+1) C)(hw:Wheel C (f*2) (x::y::F))(hF:F.length=c*2)(o1:x.oneCell'=true)(o2:y.oneCell'=true) :
  Zi Zb 301 #[.pointer (some ⟨b,0,none⟩)] w fun e w'=>e= .returned (.tuple #[.agg #[x,y],.bool true])∧
   (∃f' C',Jd 195 75 2 w' b g size n f' c C'∧Wheel C' (f'*2) F)∧Kept (fun i=>i=b∨i=g) w w':=by
 have zN:=fun W (hW:Hid (Jd 195 75 2 W b g size n f (c+1) C))=>gG b g size n f (c+1) 0 C (x::y::F) x y W hW.out hw (by simp [hF]; omega) ZO ZO o1 o2
 have HR0:=Za hr;have hr0:=Za (hr.kept (S:=fun _=>False) ((Kept.refl _ w).alloc (.cells #[.int .i64 0,.int .u64 0] 75)) id id);obtain ⟨B1,B2,hC,LH,SB,Nu,hs⟩:=hr;have Mf:=B1.lt;have zE:=B2.lt;have dN:=Za zN;have Ei:=Za B1;have VW:=Za B2;have HC:=Za hC;have HW:=Za hw;have HF:=Za hF;obtain ⟨s,hsv⟩ : ∃s:Nat,(f+1)%n=s:=⟨_,rfl⟩;have DY:s < n:=by exact ts
 have Vz: ∀W:Zc,W.cell? ⟨b,1,none⟩=some (.slice (some ⟨g,0,none⟩) n n)→W.cell? ⟨b,2,none⟩=some (.int .i64 f)→Zi Zb 207 #[.pointer (some ⟨b,0,none⟩),.int .i64 1] W fun e w'=>e= .returned (.int .i64 s)∧ ∃m,w'=W.drewN m:=fun W x1 x2=>by
  have:=Li b n f 1 _ n W x1 x2 Zp Zp Zp;rwa [hsv] at this
 have I8:=Za Vz;have tE:=Za hsv;clear Vz hsv zN B1 B2 hC hw hF;go_enter Tryz.func301,Tryz.ntmps301;go_wp2_with fail;refine (dN.out _ hr0).mono ?_;rintro e w1 ⟨rfl,hB⟩;have hz:w.heap.size+1≤w1.heap.size:=by have:=hB.size; simpa using this
 have hR:Zy w1 w.heap.size 75 #[.int .i64 0,.int .u64 0]:=Zy.below (Zw w _ _) hB ZO;have HB:Hid (Zt w.heap.size w w1):=Za (((Zr _ _).alloc (Zg _) _).trans (hB.mono ZO));have HR:=Za hR;clear hB hR;go_wp2_with (first
  | (refine Zm rfl _ _ _ rfl w1.heap.size #[x,y] rfl rfl 75 _ (Zw w1 _ _) Yi rfl (PC o1 o2) ?_; rw [Zu]))
 have jh:Kept (fun _=>False) w (w1.alloc (.cells #[x,y] 75)):=(Y4 HB.out).alloc _;obtain ⟨d0,d1,d2,d3,-,fz2,pJ⟩:=(HR0.out.kept jh id id).cells;have Ei:=Za (Ei.out.kept jh id);have VW:=Za (VW.out.kept jh id);have Za9:=Za (HR.out.alloc (.cells #[x,y] 75));have HX:=Za (Zw w1 75 #[x,y]);have HKW:=Za jh;have Du:w1.heap.size < (w1.alloc (.cells #[x,y] 75)).heap.size:=by simp
 clear jh HR HB;generalize w1.alloc (.cells #[x,y] 75)=w2 at*;refine Bj 14 ?_;simp only [qT,qD]
 repeat (go_big_quiet_step (fail))
 refine Zj ?_;intro _ Jw;obtain ⟨nr,Xl⟩:=Jw;subst Xl;refine Ex rfl (.tmp 27) _ rfl 75 Tryz.underlying49 (.agg #[.int .i64 0,.int .u64 0]) (fun _=>by kernel_rfl) Xh g (f*2) 1 (n - f) rfl Zp C 75 VW.out ik ?_;intro W1 HD1 K1;have Pd: ¬b=g:=Zy.ne_ Ei.out VW.out Xh;have EA:Hid (Zy W1 b 195 #[.int .i64 size,.slice (some ⟨g,0,none⟩) n n,.int .i64 f,.int .i64 ((c+1:Nat) :Int)]):=Za (QR (w:=w2.drewN nr) Ei.out K1 Pd);have x1:=EA.out.cell 1;have x2:=EA.out.cell 2;have x3:W1.cell? ⟨b,3,none⟩=some (.int .i64 ((c:Int)+1)):=EA.out.cell 3;have y2:=EA.out.frozen 2;have y3:=EA.out.frozen 3;have ou:=Za (QR (w:=w2.drewN nr) Za9.out K1 Zp);have dC:=Za (QR (w:=w2.drewN nr) HX.out K1 Zp);have LZ:=Za K1;clear K1 d0 d1 d2 d3 fz2 pJ;go_wp2_with fail;refine (I8.out _ x1 x2).mono ?_;rintro e w' ⟨rfl,q2,rfl⟩;have bz:w1.heap.size≠b:=by omega
 have e8:w.heap.size≠b:=by omega
 have uL:=Za (Ju (Ju (dC.out.drewN q2) (p:=⟨b,2,none⟩) bz (.int .i64 s)) (p:=⟨b,3,none⟩) bz (.int .i64 c));have I7:=Za (Ju (Ju (ou.out.drewN q2) (p:=⟨b,2,none⟩) e8 (.int .i64 s)) (p:=⟨b,3,none⟩) e8 (.int .i64 c));go_wp2_with (first
  | (refine wpList_load_row rfl _ _ rfl w1.heap.size rfl 75 #[x,y] (0,0) _ uL.out Ye rfl Yi ?_)
  | (refine Zm rfl _ _ _ rfl w.heap.size #[x,y] rfl rfl 75 _ I7.out Yi rfl (PC o1 o2) ?_))
 refine ZL (v:= .tuple #[.agg #[x,y],.bool true]) (XN (fn:=Tryz.f301) rfl _ _ w.heap.size 75 _ (0,0) _ rfl (QS I7.out _) Ye rfl Yi) rfl ?_;refine ⟨rfl,⟨s,_,⟨Zy.setRow_far ?_ (QA e8) _,Zy.setRow_far (Ju (Ju (HD1.out) (QA Pd) _) (QA Pd) _) Zp _,?_,DY,by omega,Nu,hs⟩,?_⟩,?_⟩
 ·exact ta
 ·exact sK
 ·have hZ:(Xb (Yv (.agg #[.int .i64 0,.int .u64 0])) 1).toList.length=2:=by simp [Xb,Yv]
  generalize (Xb (Yv (.agg #[.int .i64 0,.int .u64 0])) 1).toList=Z at*;exact Zgh
 ·exact Zgj
theorem mM (b size c:Nat)(go:Option Nat)(F:List Zo)(x y:Zo)(w:Zc)(hi:RingAt 195 75 2 w b go size (c+1) (x::y::F)) :
  Zi Zb 301 #[.pointer (some ⟨b,0,none⟩)] w fun e w'=>e= .returned (.tuple #[.agg #[x,y],.bool true])∧RingAt 195 75 2 w' b go size c F∧Kept (Foot b go) w w':=by
 obtain ⟨hF,hF1,⟨rfl,h0,_⟩ | ⟨g,n,f,C,rfl,h3,h4⟩⟩:=hi
 ·omega
 ·have hl:F.length=c*2:=by exact tt
  exact (mN b g size n f c C F x y w h3 h4 hl (hF1 _ ZO) (hF1 _ ZO)).mono fun e w' ⟨he,⟨f',C',k1,k2⟩,k3⟩=>
   ⟨he,k1.at_ k2 hl (fun x hx=>hF1 x (KQ _ (KQ _ hx))),k3.more fun i _ hi=>hi.elim .inl (fun e=> .inr (by rw [e]))⟩
end
end Go.Proofs.YtianiiijaopdpaaGreat
