/- Part 32 of 58: L09Sweep L13UOwn. -/
import Derived.Test.YtianiiijaopdpaaGreatZu00
import Derived.Test.YtianiiijaopdpaaGreatZu09
import Derived.Test.YtianiiijaopdpaaGreatZu30
namespace Go.Proofs.YtianiiijaopdpaaGreat
set_option linter.unusedVariables false
set_option linter.unusedSimpArgs false
set_option maxRecDepth 100000
set_option maxHeartbeats 8000000
open _root_.Go.Lib renaming hid → Za
open _root_.List renaming getD_eq_getElem?_getD → Zq
open _root_.Nat renaming lt_of_lt_of_le → Yp
open _root_.Go.Value renaming int → ZX
open _root_.Go renaming World → Zc
theorem Rw {G:Prop}(h:G:=by rw [HN.out]; omega) :G:=h
theorem sL {G:Prop} (h:G:=by
  rcases h.2 with ⟨rfl,rfl⟩ | ⟨g,cp,cur,rfl,_⟩
  ·exact ⟨none,0,rfl⟩
  ·exact ⟨_,cp,rfl⟩) :G:=h
theorem tf {G:Prop} (h:G:=by
  clear Kj;go_wp2;try rw [Exit.noGoto_ret]
  go_ret2;exact he.out) :G:=h
section
open Go Go.RowKit
def Ma (w:Zc)(S:Nat→Prop)(a:Option Addr)(L:List Bool) :Prop:=
 0 < L.length→ ∃b off,a=some ⟨b,off,none⟩∧ ¬S b∧b < w.heap.size∧ ∀j,j < L.length→w.cell? ⟨b,off+j,none⟩=some (.bool (L.getD j false))
section
variable {w w':Zc} {S T:Nat→Prop} {a:Option Addr} {L:List Bool}
theorem Ma.kept (h:Ma w S a L)(k:Kept T w w')(hT: ∀i,i < w.heap.size→T i→S i) :Ma w' S a L:=fun hl=>by
 obtain ⟨b,off,e,hn,hb,hc⟩:=h hl;exact ⟨b,off,e,hn,Yp hb k.size,fun j hj=>k.cell (fun ht=>hn (hT _ hb ht)) (hc j hj)⟩
theorem Ma.below (h:Ma w S a L)(hb:Below w.heap.size w w') :Ma w' S a L:=fun hl=>by
 obtain ⟨b,off,e,hn,Gk,hc⟩:=h hl;exact ⟨b,off,e,hn,Yp Gk hb.size,fun j hj=>(hb.cell (p:=⟨b,off+j,none⟩) Gk).trans (hc j hj)⟩
theorem Ma.of_blk {g:Nat}{t:TypeId}(h:Zy w g t (L.map Value.bool).toArray)(hn: ¬S g) :Ma w S (some ⟨g,0,none⟩) L:=fun hl=>
 ⟨g,0,rfl,hn,h.lt,fun j hj=>by
  rw [Nat.zero_add,h.cell,List.getElem?_toArray,List.getElem?_map,Zq,List.getElem?_eq_getElem hj];rfl⟩
end
theorem EW {w w':Zc}{S:Nat→Prop}{base n size:Nat}{e:TypeId}{v:Value}{xs:List Value}(h:w.ownsRow base e size v n xs)(k:Kept S w w')(hn: ∀g,v.ownBlock=some g→ ¬S g) :w'.ownsRow base e size v n xs:=by
 obtain ⟨h1,h2⟩:=h;refine ⟨h1,?_⟩
 rcases h2 with h2 | ⟨g,cap,cur,rfl,h3,h4,h5⟩
 ·exact .inl h2
 ·exact .inr ⟨g,cap,cur,rfl,h3,Zy.kept (w:=w) h4 k (hn g rfl),h5⟩
theorem rp {w:Zc}{base n:Nat}{v:Value}{xs:List Value}(h:w.ownsRow base 3 1 v n xs) : ∃a cp,v= .slice a n cp:=by
 exact sL
def WQ (w:Zc)(c s:Nat)(L:List Bool)(v p:Int)(e:Ending)(w':Zc) :Prop:=
 ∃(m:Nat) (a:Option Addr) (cp:Nat),e= .returned (.tuple #[.slice a (KD L s m).length cp,.int .i64 m])∧Nc L s v p m∧Hid (JL w' (fun i=>i < w.heap.size) a (KD L s m))∧Hid (nD w' c (DS L.length s m))∧Kept (fun i=>i=c) w w'
theorem nm (c s:Nat)(a:Option Addr)(cap:Nat)(L:List Bool)(v p:Int)(w:Zc)(hc:nD w c s)(hs:s≤100)(hL:L.length≤100)(hb:Ma w (fun i=>i=c) a L) :
  Calls Tryz.prog 270 #[.pointer (some ⟨c,0,none⟩),.slice a L.length cap,.int .i64 v,.int .i64 p] w (WQ w c s L v p):=by
 obtain ⟨i0,hi,BM,BN,M5⟩:=LI;obtain ⟨n,hn⟩ : ∃n,L.length=n:=⟨_,rfl⟩;rw [hn] at hL;rw [hn];have HN:=Za hn;have HC:=Za hc;have HB:=Za hb;have H:=Za (fun w=>bR c n w);have Ek:=hc.lt;clear hn hc hb;go_enter Tryz.func270,Tryz.ntmps270;go_wp2;go_step3;go_wp2_with fail;refine (H.out _).mono ?_;rintro e w1 ⟨rfl,rfl⟩;go_wp2_with fail;go_step3;go_wp2;have HP:Hid (Zy ((w.alloc (.cells #[.pointer (some ⟨c,0,none⟩)] 90)).alloc (.cells #[.int .i64 n] 3)) w.heap.size 90 #[.pointer (some ⟨c,0,none⟩)]):=Za ((Zy.new w _ _).alloc _);have HQ:Hid (Zy ((w.alloc (.cells #[.pointer (some ⟨c,0,none⟩)] 90)).alloc (.cells #[.int .i64 n] 3)) (w.heap.size+1) 3 #[.int .i64 n]):=Za (by have:=Zy.new (w.alloc (.cells #[.pointer (some ⟨c,0,none⟩)] 90)) 3 #[.int .i64 (n:Int)]; simpa using this);have HK:Hid (Kept (fun i=>i=c) w ((w.alloc (.cells #[.pointer (some ⟨c,0,none⟩)] 90)).alloc (.cells #[.int .i64 n] 3))∧w.heap.size+2≤((w.alloc (.cells #[.pointer (some ⟨c,0,none⟩)] 90)).alloc (.cells #[.int .i64 n] 3)).heap.size):=Za ⟨((Kept.refl _ w).alloc _).alloc _,by simp⟩;have yU:=Za ((HC.out.alloc (.cells #[.pointer (some ⟨c,0,none⟩)] 90)).alloc (.cells #[.int .i64 (n:Int)] 3));clear HC H;generalize hz:w.heap.size=z at*;have HZ:=Za hz;clear hz;go_loopg [10,11] n (fun g s10 s11 wr=> ∃(k q:Nat) (a1:Option Addr) (c1:Nat),k+g=n∧q≤k∧s10= .slice a1 q c1∧s11= .int .i64 k∧Hid ((KD L s k).length=q∧wr.ownsRow (z+2) 3 1 (.slice a1 q c1) q ((KD L s k).map (ZX .i64)))∧
  Hid (∀j,j < k→(j:Int)< v∧j < n∧((JW L s j).length:Int)< p)∧Hid (nD wr c (DS n s k))∧Hid (Zy wr z 90 #[.pointer (some ⟨c,0,none⟩)]∧Zy wr (z+1) 3 #[.int .i64 n])∧Hid (Kept (fun i=>i=c) w wr∧z+2≤wr.heap.size))
 case atStart=>exact ⟨0,0,none,0,by omega,by omega,rfl,rfl,Za ⟨rfl,World.ownsRow_nil _ _ _ _⟩,Za (fun j hj=>by omega),yU,Za ⟨HP.out,HQ.out⟩,HK⟩
 case round=>
  obtain ⟨k,q,a1,c1,hkg,hqk,rfl,rfl,HO,HS,HC,HBL,HKK⟩:=hrel;clear yU HP HQ HK;have Kj: ∀m,m=k→(v≤(k:Int)∨n≤k∨p≤(q:Int))→WQ w c s L v p (.returned (.tuple #[.slice a1 q c1,.int .i64 k])) wr:=by
   rintro m rfl Gm;have h1:=HO.out.1;obtain ⟨a2,c2,e,_,_,_,Uq⟩:=VK (S:=fun i=>i < w.heap.size) HO.out.2 (fun i hi=>by
    have:=HO.out.2.2
    rcases this with ⟨e,_⟩ | ⟨g,cp,cur,e,hb,_⟩
    ·rw [e] at hi; cases hi
    ·rw [e] at hi; injection hi with hi; subst hi; have hb':z+2≤g:=hb; show ¬g < _; rw [HZ.out]; omega)
   injection e with e1 _ e2;subst e1 e2;refine ⟨m,a1,c1,by rw [h1],⟨by rw [HN.out,←Az,h1]; exact Gm,by rw [HN.out]; exact HS.out⟩,Za Uq,Za (by rw [HN.out]; exact HC.out),HKK.out.1⟩
  by_cases h1:v≤(k:Int)
  ·have he:=Za (Kj k rfl (.inl h1));exact tf
  by_cases h2:n≤k
  ·have he:=Za (Kj k rfl (.inr (.inl h2)));exact tf
  by_cases h3:p≤(q:Int)
  ·have he:=Za (Kj k rfl (.inr (.inr h3)));exact tf
  clear Kj;obtain ⟨i,Mh⟩ : ∃i,(s+k)%n=i:=⟨_,rfl⟩;have EB:i < n:=by rw [←Mh]; exact Nat.mod_lt _ Zp
  have H1:Hid (Calls Tryz.prog 320 #[.pointer (some ⟨z,0,none⟩),.pointer (some ⟨z+1,0,none⟩)] wr fun e w'=>e= .returned (.int .i64 (i:Int))∧Hid (nD w' c (DS n s (k+1)))∧Hid (Kept (fun i=>i=c) wr w')):=Za (by
   refine (ch z (z+1) c (DS n s k) n wr HBL.out.1 HBL.out.2 HC.out (xo Zp hs Zp) Zp Zp).mono ?_;rintro e w' ⟨he,h2,h3⟩;rw [rE] at he h2;rw [mE] at h2;exact ⟨by rw [he,Mh],Za h2,Za h3⟩)
  have HI:=Za Mh;clear Mh;obtain ⟨b,off,ha,hbc,Mf,Gl⟩:=HB.out Rw;subst ha;have hx:=Gl i Rw;obtain ⟨r,hr⟩ : ∃r,L.getD i false=r:=⟨_,rfl⟩;rw [hr] at hx;have HR:=Za hr;have HX:=Za hx;clear Gl hx hr;have kz:Hid (∀j,j < k+1→(j:Int)< v∧j < n∧((JW L s j).length:Int)< p):=Za (by
   have:=sg (L:=L) (s:=s) (v:=v) (p:=p) (m:=k) (by rw [HN.out]; exact HS.out) Zp Rw (by rw [←Az,HO.out.1]; omega);rw [HN.out] at this;exact this)
  go_wp2_with fail;refine H1.out.mono ?_;rintro e w1 ⟨rfl,yU,LZ⟩;have jr:w1.cell? ⟨b,off+i,none⟩=some (.bool r):=LZ.out.cell hbc (HKK.out.1.cell hbc HX.out);have Wb:Hid (w1.ownsRow (z+2) 3 1 (.slice a1 q c1) q ((KD L s k).map (ZX .i64))):=Za (EW HO.out.2 LZ.out (fun g hg e=>by
   have:=(HO.out.2.lt g hg).1;omega))
  have uz:Hid (Zy w1 z 90 #[.pointer (some ⟨c,0,none⟩)]∧Zy w1 (z+1) 3 #[.int .i64 n]):=Za ⟨HBL.out.1.kept LZ.out Zp,HBL.out.2.kept LZ.out Zp⟩;have oe:Hid (Kept (fun i=>i=c) w w1∧z+2≤w1.heap.size):=Za ⟨HKK.out.1.trans LZ.out (fun _ _ h=>h),Nat.le_trans HKK.out.2 LZ.out.size⟩;have HL:=Za HO.out.1;clear HC HBL HKK HO HX LZ H1 HS
  cases r
  ·have HM:Hid ((KD L s (k+1)).length=q∧KD L s (k+1)=KD L s k):=Za (by
    have:=fS (L:=L) (s:=s) (k:=k) (by rw [HN.out,HI.out]; exact HR.out);exact ⟨by rw [this]; exact HL.out,this⟩)
   have Oi:Hid ((KD L s (k+1)).length=q∧w1.ownsRow (z+2) 3 1 (.slice a1 q c1) q ((KD L s (k+1)).map (ZX .i64))):=Za ⟨HM.out.1,by rw [HM.out.2]; exact Wb.out⟩;clear Wb HM HR HL;go_wp2;go_roundg (gk - 1)
   case measure=>omega
   case rel=>exact ⟨k+1,q,a1,c1,by omega,by omega,rfl,by go_num,Oi,kz,yU,uz,oe⟩
  ·have HM:Hid ((KD L s (k+1)).length=q+1∧KD L s (k+1)=KD L s k++[(i:Int)]):=Za (by
    have:=mw (L:=L) (s:=s) (k:=k) (by rw [HN.out,HI.out]; exact HR.out);rw [HN.out,HI.out] at this;exact ⟨by rw [this,List.length_append,HL.out]; rfl,this⟩)
   go_wp2_with (at_builtin; refine wpList_append_own _ rfl _ _ 47 rfl (z+2) 3 i0 (.int .i64 0) 1 8 Tryz.underlying47 hi BM BN M5 rfl Xh _ _ _ rfl (Wb.out.alloc _) ⟨w1.heap.size,0,none⟩ 1 1 [.int .i64 (i:Int)] rfl rfl ?c1 ?c2 ?c3 ?c4 ?c5 ?_)
   case c1=>
    intro j u hj
    match j,hj with
    | 0,hj=>simp at hj; subst hj; simp [Addr.add]
   case c2=>intro u hu; simp at hu; subst hu; rfl
   case c3=>unfold maxLen; omega
   case c4=>omega
   case c5=>have:=oe.out.2; simp; omega
   intro v' w2 hown2 FT _;have zF:Zy w2 z 90 #[.pointer (some ⟨c,0,none⟩)]∧Zy w2 (z+1) 3 #[.int .i64 n]∧nD w2 c (DS n s (k+1))∧Kept (fun i=>i=c) w w2∧z+2≤w2.heap.size:=by
    have Kt: ∀i,i < z+2→some i≠(Value.slice a1 q c1).ownBlock:=fun i hi e=>by
     have:=(Wb.out.lt i e.symm).1;omega
    have Du:=FT.size;refine ⟨((uz.out.1.alloc _).grown FT (Kt z Zp)),((uz.out.2.alloc _).grown FT (Kt (z+1) Zp)),(Zy.grown (Zy.alloc yU.out _) FT (Kt c Zp)),?_,?_⟩
    ·have k1:Kept (fun i=>z≤i) w1 w2:=((Kept.refl _ w1).alloc _).trans (Kept.of_grown (S:=fun i=>z≤i) FT (fun i e=>by
      have:=(Wb.out.lt i e.symm).1;omega)) (fun _ _ h=>h)
     exact oe.out.1.trans k1 (fun i h1 h2=>by rw [HZ.out] at h1; omega)
    ·have:=oe.out.2;simp at Du;omega
   have HBL2:Hid (Zy w2 z 90 #[.pointer (some ⟨c,0,none⟩)]∧Zy w2 (z+1) 3 #[.int .i64 n]):=Za ⟨zF.1,zF.2.1⟩;have tB:Hid (nD w2 c (DS n s (k+1))):=Za zF.2.2.1;have HKK2:Hid (Kept (fun i=>i=c) w w2∧z+2≤w2.heap.size):=Za zF.2.2.2;obtain ⟨a2,c2,rfl⟩:=rp hown2;have Oi:Hid ((KD L s (k+1)).length=q+1∧w2.ownsRow (z+2) 3 1 (.slice a2 (q+1) c2) (q+1) ((KD L s (k+1)).map (ZX .i64))):=Za ⟨HM.out.1,by rw [HM.out.2,List.map_append]; exact hown2⟩;clear zF FT hown2 Wb HM HR HL uz yU oe jr;go_wp2;go_roundg (gk - 1)
   case measure=>omega
   case rel=>exact ⟨k+1,q+1,a2,c2,by omega,by omega,rfl,by go_num,Oi,kz,tB,HBL2,HKK2⟩
end
section
open Go Go.RowKit
section
variable {w:Zc} {S:Nat→Prop} {L:List Int} {a:Option Addr} {n:Nat}
theorem Fm {base n:Nat}{v:Value}(h:w.ownsRow base 22 1 v n (L.map (ZX .u64)))(hS: ∀i,v.ownBlock=some i→ ¬S i) : ∃a cp,v= .slice a n cp∧L.length=n∧n≤cp∧N9 w S a L:=by
 have hl:=h.1;rw [List.length_map,Nat.mul_one] at hl
 rcases h.2 with ⟨rfl,h2⟩ | ⟨g,cp,cur,rfl,h1,h3,h4,h5,h6,h7⟩
 ·subst h2;obtain rfl:=List.eq_nil_of_length_eq_zero hl;exact ⟨none,0,rfl,rfl,by omega,N9.nil _ _ _⟩
 ·refine ⟨_,cp,rfl,hl,h4,fun h0=>⟨g,0,rfl,hS g rfl,(Array.getElem?_eq_some_iff.1 h3).1,fun j hj=>?_⟩⟩;have:=h.cells (g:=g) rfl j (.int .u64 (L.getD j 0)) IK;rwa [add_plain] at this
theorem JL.take (h:JL w S a L)(hn:n≤L.length) :JL w S a (L.take n):=fun h0=>by
 have hl:(L.take n).length=n:=by simp; omega
 rw [hl] at h0 ⊢;obtain ⟨b,off,e,hs,hb,hc⟩:=h Zp;refine ⟨b,off,e,hs,hb,fun j hj=>?_⟩;rw [hc j Zp];simp [Zq,List.getElem?_take_of_lt hj]
end
end
end Go.Proofs.YtianiiijaopdpaaGreat
