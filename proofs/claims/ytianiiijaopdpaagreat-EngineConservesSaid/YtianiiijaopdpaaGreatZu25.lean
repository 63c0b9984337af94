/- Part 25 of 58: L07Refs L17Plain L08Row L08Ring L08New L08Put. -/
import Derived.Test.YtianiiijaopdpaaGreatZu00
import Derived.Test.YtianiiijaopdpaaGreatZu09
import Derived.Test.YtianiiijaopdpaaGreatZu22
import Derived.Test.YtianiiijaopdpaaGreatZu24
namespace Go.Proofs.YtianiiijaopdpaaGreat
set_option linter.unusedVariables false
set_option linter.unusedSimpArgs false
set_option maxRecDepth 100000
set_option maxHeartbeats 8000000
open _root_.Go.RowKit renaming Below → Zt
open _root_.Go.RowKit.Below renaming refl → Zr
open _root_.Go renaming Calls → Zi, Value → Zo, World → Zc, wpQuiet_nil → Zj
open _root_.Int renaming toNat_natCast → YX
open _root_.Go.Lib renaming hid → Za
open _root_.List renaming cons_append → Ym, getD_eq_getElem?_getD → Zq, getElem?_eq_getElem → Zf, getElem?_eq_some_iff → Zh, getElem?_map → ZR, getElem?_set_ne → YG, getElem?_set_self → YQ, getElem?_toArray → YY, length_append → ZN, mem_append → YK, mem_of_getElem? → ZE, mem_of_mem_drop → Y6, mem_of_mem_take → ZP, mem_or_eq_of_mem_set → Qo, mem_singleton → Y5, replicate → ZF, take_add_one → YN, take_append_drop → XF
open _root_.Nat renaming le_refl → Zg, zero_add → Yb
open _root_.Go.Proofs.Tryz renaming prog → Zb, underlying206 → GG
open _root_.Go.Value renaming slice → Yr
open _root_.Go.World renaming ownsRow_nil → Xj
theorem IT {G:Prop}(h:G:=by have:=hp.pos; omega) :G:=h
theorem ZQ {G:Prop}(h:G:=by have:=HN.out; omega) :G:=h
theorem Zgo {G:Prop} (h:G:=by
  go_wp2_with fail;refine H.out.mono ?_;rintro e w1 ⟨v,rfl,ho,hb⟩;have HO:=Lib.hid ho;clear ho;go_wp2_with fail;refine (HS.out v _ w1 HO.out).mono ?_;rintro e w2 ⟨rfl,m,rfl⟩;have Gk:=below_drewN hb m;go_wp2_with fail;go_ret;exact ⟨rfl,Gk⟩) :G:=h
theorem Zgy {G:Prop} (h:G:=by
  rw [Below.heap_setCell _ _ _ _ (fun e=>(h.not ht).2 (by rw [hq,e]))];exact hk.block q (h.lt (List.mem_of_getElem? ht) hq) (fun e=>h.apart _ _ _ _ q hij ht hs hq e)) :G:=h
theorem ZgY {G:Prop} (h:G:=by
  rcases hi with rfl | hi
  ·exact (hS _).2 (.inr (.inl rfl))
  ·exact (hS _).2 (.inr (.inr ⟨s,List.mem_of_getElem? hs,hi⟩))) :G:=h
theorem Zaf {G:Prop} (h:G:=by
  have:=Zy.set_ (w:=w3) (g:=B) (t:=206) (cs:=ss.toArray) (vM.trans h.bks) j s';simpa using this) :G:=h
theorem ZaC {G:Prop} (h:G:=by
  have:=Int.emod_lt_of_pos ep (b:=(n:Int)) IT;omega) :G:=h
theorem dx {G:Prop} (h:G:=by
  simp [Lit.wf,IntKind.min,IntKind.max,IntKind.signed,IntKind.bits];omega) :G:=h
theorem ZaL {G:Prop} (h:G:=by
  rwa [List.take_of_length_le (by rw [HN.out]; exact Nat.le_refl _)] at this) :G:=h
theorem ZaP {G:Prop} (h:G:=by
  rw [Below.heap_setCell _ _ _ _ h.ne];exact hk.block b h.own.lt Fw.1) :G:=h
theorem th {G:Prop} (h:G:=by
  have:=(List.getElem?_eq_some_iff.1 hs).1;have:=h.len;omega) :G:=h
theorem A5 {G:Prop} (h:G:=by
  split
  ·omega
  ·split <;> omega) :G:=h
section
open Go Go.RowKit Go.Deep
def Q0 (l:List Yd) :List Int:=l.map (·.bal)
theorem LU {l:List Yd}{k:Nat}{v:Yd}(h:l[k]?=some v) :l.take (k+1)=l.take k++[v]:=by
 have hk:=(Zh.1 h).1;rw [YN,h];rfl
theorem dj (l:List Yd) : ∀n,n≤l.length→XT (Q0 l) n=ZA (l.take n)
 | 0,_=>by simp [XT,ZA]
 | n+1,h=>by
  obtain ⟨v,hv⟩ : ∃v,l[n]?=some v:=⟨_,Zf Zp⟩;rw [LU hv,UP,XT,dj l n Zp];simp [ZA,Q0,Zq,hv]
theorem yh (l:List Yd) :XT (Q0 l) l.length=ZA l:=by rw [dj l _ (Zg _),List.take_length]
theorem Hh {l:List Yd}(h: ∀v ∈ l,Yq v)(k:Nat) :0≤ZY (l.take k)∧ZY (l.take k)≤ZY l:=by
 have h1:=active_le (l:=l.take k) (fun v hv=>h v (ZP hv));have h2:=active_le (l:=l.drop k) (fun v hv=>h v (Y6 hv));have h3:=Gf (l.take k) (l.drop k);rw [XF] at h3;omega
theorem yu: ∃i,Tryz.prog.info? 22=some i∧i.zero=some (.int .u64 0)∧i.size=1∧i.bytes=8:=by
 exact Zgn
def GH (l:List Yd) :List Zo:=(Q0 l).map (.int .u64)
theorem cn (l m:List Yd) :GH (l++m)=GH l++GH m:=by simp [GH,Q0]
theorem Dj.at2 {w:Zc}{S:Nat→Prop}{a:Option Addr}{l:List Yd}(h:Dj w S a l){i:Nat}{v:Yd}(hi:l[i]?=some v) : ∃b off,a=some ⟨b,off,none⟩∧w.cell? ⟨b,off+i*7,none⟩=some (.int .u64 v.bal)∧w.cell? ⟨b,off+i*7+1,none⟩=some (.int .i64 v.st)∧w.rangeAt b (off+i*7) v.row:=by
 obtain ⟨b,off,h1,h2⟩:=h.at hi;exact ⟨b,off,h1,h2 0 _ rfl,h2 1 _ rfl,h2⟩
theorem Nf (S:Nat→Prop)(a:Option Addr)(cp:Nat)(l:List Yd)(w:Zc)(h:Dj w S a l)(hl:l.length≤4096) :
  Zi Zb 67 #[.slice a l.length cp] w fun e w'=> ∃v,e= .returned v∧w'.ownsRow w.heap.size 22 1 v l.length (GH l)∧Zt w.heap.size w w':=by
 have HL:=Za h;obtain ⟨n,hn⟩ : ∃n,l.length=n:=⟨_,rfl⟩;rw [hn] at hl ⊢;have HN:=Za hn;obtain ⟨j0,eZ,BM,BN,M5⟩:=yu;clear h hn;go_enter Tryz.func67,Tryz.ntmps67;go_wp2;go_loopw [3,4] (fun s3 s4 wr=> ∃k:Nat,k≤n∧s4= .int .i64 k∧Hid (wr.ownsRow w.heap.size 22 1 s3 k (GH (l.take k)))∧Zt w.heap.size w wr) (fun _ s4 _=>n -(intOf s4).toNat)
 case atStart=>exact ⟨0,by omega,rfl,Za (Xj _ _ _ _),Zr _ _⟩
 case round=>
  obtain ⟨k,hk,rfl,HO,BR⟩:=hrel
  by_cases XJ:k < n
  ·obtain ⟨v,hv⟩ : ∃v,l[k]?=some v:=⟨_,Zf ZQ⟩;obtain ⟨b,off,rfl,e0,_,_⟩:=(HL.out.below BR).at2 hv;have HV:=Za hv;clear hv;go_wp2_with (at_builtin; refine QL _ rfl (.tmp 11) (.tmp 17) 143 rfl w.heap.size 22 j0 _ 1 8 Tryz.underlying143 eZ BM BN M5 rfl Nat.one_pos u3 k (GH (l.take k)) rfl (HO.out.alloc _) (some ⟨wr.heap.size,0,none⟩) 1 1 [.int .u64 v.bal] rfl rfl (fun _=>⟨_,rfl,cell_one_new wr _ _⟩) (by simp [Value.oneCell']) US Zp (by have:=BR.size; simp; omega) ?_; intro v1 w1 ho hg hv1);have hZ:w1.ownsRow w.heap.size 22 1 v1 (k+1) (GH (l.take (k+1)))∧Zt w.heap.size w w1:=by
    refine ⟨by rw [LU HV.out,cn]; exact ho,?_⟩;have Du:=BR.size;refine (BR.alloc Du _).grown hg Vq (fun q hq=>?_)
    rcases HO.out.2 with ⟨h1,_⟩ | ⟨g,Bp,cur,h1,h2,_⟩
    ·rw [h1] at hq; cases hq
    ·rw [h1] at hq; simp [Value.ownBlock] at hq; omega
   have HZ:=Za hZ;clear ho hg hv1 hZ e0 HO BR;go_wp2;go_roundw
   case rel=>exact ⟨k+1,by omega,by go_num,Za HZ.out.1,HZ.out.2⟩
   case measure=>exact Uz
  ·obtain rfl:k=n:=by omega
   have hz:wr.ownsRow w.heap.size 22 1 u3 k (GH l):=by
    have:=HO.out;exact ZaL
   have HZ:=Za hz;clear XJ hz;have XJ: ¬k < k:=by omega
   go_wp2;go_ret;exact ⟨_,rfl,HZ.out,BR⟩
theorem ZcG {w:Zc}{base g n cp:Nat}{l:List Yd}(h:w.ownsRow base 22 1 (.slice (some ⟨g,0,none⟩) n cp) n (GH l))(hl:l.length=n) : ∀i,i < n→w.cell? ⟨g,0+i,none⟩=some (.int .u64 ((Q0 l).getD i 0)):=fun i hi=>by
 have e:(GH l)[i]?=some (.int .u64 ((Q0 l).getD i 0)):=by
  simp only [GH,Q0,List.map_map,ZR,Zq,Zf (by omega:i < l.length)];rfl
 have:=h.cells (g:=g) rfl i _ e;rwa [add_plain] at this
theorem RU {l:List Yd}(h: ∀v ∈ l,Yq v)(i:Nat) :0≤(Q0 l).getD i 0∧(Q0 l).getD i 0≤18446744073709551615:=by
 rw [Zq,Q0,ZR]
 cases hi:l[i]? with
 | none=>simp
 | some v=>exact (h v (ZE hi)).bal
theorem Th (v:Zo)(base:Nat)(l:List Yd)(w:Zc)(h:w.ownsRow base 22 1 v l.length (GH l))(hl:l.length≤4096)(hf: ∀v ∈ l,Yq v) :
  Zi Zb 66 #[v] w fun e w'=>e= .returned (.tuple #[.int .u64 (if ZA l≤18446744073709551615 then ZA l else 0),.bool (decide (ZA l≤18446744073709551615))])∧ ∃m,w'=w.drewN m:=by
 rcases h.2 with ⟨rfl,h0⟩ | ⟨g,cp,cur,rfl,_⟩
 ·obtain rfl:=List.eq_nil_of_length_eq_zero h0;exact (cI none 0 w).mono fun e w' ⟨he,hw⟩=>⟨by rw [he]; simp [ZA],0,hw.symm⟩
 ·have:=gq g 0 l.length cp (Q0 l) w Zp (ZcG h rfl) (RU hf);refine this.mono fun e w' ⟨he,m,hm⟩=>⟨?_,m,hm⟩
  rw [he,EG,G9,yh]
theorem pE (S:Nat→Prop)(a:Option Addr)(cp:Nat)(l:List Yd)(w:Zc)(h:Dj w S a l)(hl:l.length≤4096)(hf: ∀v ∈ l,Yq v) :
  Zi Zb 22 #[.slice a l.length cp] w fun e w'=>e= .returned (.bool (decide (ZA l≤18446744073709551615)))∧Zt w.heap.size w w':=by
 have H:=Za (Nf S a cp l w h hl);obtain ⟨r,hr⟩ : ∃r,decide (ZA l≤18446744073709551615)=r:=⟨_,rfl⟩;obtain ⟨q,hq⟩ : ∃q,(if ZA l≤18446744073709551615 then ZA l else 0)=q:=⟨_,rfl⟩;have HS:Hid (∀(v:Zo) (base:Nat) (w:Zc),w.ownsRow base 22 1 v l.length (GH l)→Zi Zb 66 #[v] w fun e w'=>e= .returned (.tuple #[.int .u64 q,.bool r])∧ ∃m,w'=w.drewN m):=Za (fun v base w ho=>by
  have:=Th v base l w ho hl hf;rwa [hr,hq] at this)
 rw [hr];clear h hf hr hq;go_enter Tryz.func22,Tryz.ntmps22;exact Zgo
theorem Il (S:Nat→Prop)(a:Option Addr)(cp:Nat)(l:List Yd)(w:Zc)(h:Dj w S a l)(hl:l.length≤4096)(hf: ∀v ∈ l,Yq v)(ht:ZA l≤18446744073709551615) :
  Zi Zb 24 #[.slice a l.length cp] w fun e w'=>e= .returned (.int .u64 (ZA l))∧Zt w.heap.size w w':=by
 have H:=Za (Nf S a cp l w h hl);obtain ⟨r,hr⟩ : ∃r,decide (ZA l≤18446744073709551615)=r:=⟨_,rfl⟩;obtain ⟨q,hq⟩ : ∃q,(if ZA l≤18446744073709551615 then ZA l else 0)=q:=⟨_,rfl⟩;have HS:Hid (∀(v:Zo) (base:Nat) (w:Zc),w.ownsRow base 22 1 v l.length (GH l)→Zi Zb 66 #[v] w fun e w'=>e= .returned (.tuple #[.int .u64 q,.bool r])∧ ∃m,w'=w.drewN m):=Za (fun v base w ho=>by
  have:=Th v base l w ho hl hf;rwa [hr,hq] at this)
 rw [if_pos ht] at hq;rw [hq];clear h hf hr hq;clear ht;go_enter Tryz.func24,Tryz.ntmps24;exact Zgo
theorem WB (S:Nat→Prop)(a:Option Addr)(cp:Nat)(l:List Yd)(w:Zc)(h:Dj w S a l)(hl:l.length≤4096)(hf: ∀v ∈ l,Yq v)(ht:ZY l≤18446744073709551615) :
  Zi Zb 25 #[.slice a l.length cp] w fun e w'=>e= .returned (.int .u64 (ZY l))∧w=w':=by
 have HL:=Za h;have HF:=Za hf;obtain ⟨n,hn⟩ : ∃n,l.length=n:=⟨_,rfl⟩;rw [hn] at hl ⊢;have HN:=Za hn;have HT:=Za ht;clear h hn hf ht;go_enter Tryz.func25,Tryz.ntmps25;go_wp2;go_loop [3,4] (fun s3 s4=> ∃(k:Nat) (t:Int),k≤n∧s4= .int .i64 k∧s3= .int .u64 t∧Hid (t=ZY (l.take k))) (fun _ s4=>n -(intOf s4).toNat)
 case atStart=>exact ⟨0,0,by omega,rfl,rfl,Za rfl⟩
 case round=>
  obtain ⟨k,t,hk,rfl,rfl,HQ⟩:=hrel
  by_cases XJ:k < n
  ·obtain ⟨v,hv⟩ : ∃v,l[k]?=some v:=⟨_,Zf ZQ⟩;obtain ⟨b,off,rfl,e0,e1,_⟩:=HL.out.at2 hv;have hs:ZY (l.take (k+1))=t+liveBal v:=by rw [LU hv,Gf,HQ.out]; simp [ZY]
   have hb:=Hh HF.out (k+1);have Ai:=Hh HF.out k;rw [hs] at hb;rw [←HQ.out] at Ai;have hT:=HT.out;have hv0:=(HF.out v (ZE hv)).bal;have HS:=Za hs;have HLV:=Za (fun (w:Zc)=>cJ v.st w)
   cases hlv:Bm v.st with
   | true=>
    have e2:liveBal v=v.bal:=by simp [liveBal,hlv]
    rw [e2] at hb HS;rw [hlv] at HLV;clear hs hv hlv e2;go_wp2_with fail;refine (HLV.out _).mono ?_;rintro e w1 ⟨rfl,rfl⟩;go_wp2;go_round
    case rel=>exact ⟨k+1,t+v.bal,by omega,by go_num,rfl,Za HS.out.symm⟩
    case measure=>simp [intOf]; omega
   | false=>
    have e2:t+liveBal v=t:=by simp [liveBal,hlv]
    rw [e2] at HS;rw [hlv] at HLV;clear hs hv hlv e2;go_wp2_with fail;refine (HLV.out _).mono ?_;rintro e w1 ⟨rfl,rfl⟩;go_wp2;go_round
    case rel=>exact ⟨k+1,t,by omega,by go_num,rfl,Za HS.out.symm⟩
    case measure=>simp [intOf]; omega
  ·obtain rfl:k=n:=by omega
   have hz:t=ZY l:=by
    have:=HQ.out;exact ZaL
   have HZ:=Za hz;clear XJ hz;have XJ: ¬k < k:=by omega
   go_wp2;go_ret;exact ⟨by rw [←HZ.out]; rfl,rfl⟩
end
section
def Ur (r:Rq)(n:Nat) :Bool:=decide (0≤r.ix∧r.ix < n)
def My (l:List Yd)(r:Rq) :Int:=if Ur r l.length=false then 7 else if r.am=0 then 3 else if(l.getD r.ix.toNat Z9).st≠2 then 8 else 0
def Ba (v:Yd)(mb:Int) :Int:=if v.st≠2 then 0 else if v.sl=true then 0 else if mb < v.bal then v.bal - mb else 0
def DD (v:Yd)(x mb:Int) :Int:=if Ba v mb < x then Ba v mb else x
def Mw (v:Yd)(x mb:Int) :Yd:= { v with bal:=v.bal - DD v x mb}
def NI (l:List Yd)(r:Rq)(mb:Int) :Int:=if Ur r l.length=true then DD (l.getD r.ix.toNat Z9) r.am mb else 0
def EX (l:List Yd)(r:Rq)(mb:Int) :List Yd:=if Ur r l.length=true then l.set r.ix.toNat (Mw (l.getD r.ix.toNat Z9) r.am mb) else l
def Lc (i x:Int) :List Py:=if x=0 then [] else [⟨i,x,false⟩]
def XX (mb:Int) :List Yd→List Rq→List Yd
 | l,[]=>l
 | l,r::q=>XX mb (EX l r mb) q
def Kf (mb:Int) :List Yd→List Rq→List Py
 | _,[]=> []
 | l,r::q=>Lc r.ix (NI l r mb)++Kf mb (EX l r mb) q
theorem Ck {v:Yd}{mb:Int}(hv:Yq v)(hm:0≤mb) :0≤Ba v mb∧Ba v mb≤v.bal:=by
 have:=hv.bal;unfold Ba
 split
 ·omega
 ·exact A5
theorem D6 {v:Yd}{x mb:Int}(hv:Yq v)(hm:0≤mb)(hx:0≤x) :0≤DD v x mb∧DD v x mb≤v.bal∧DD v x mb≤Ba v mb∧DD v x mb≤x:=by
 have:=Ck hv hm;unfold DD
 split <;> omega
theorem oC {v:Yd}{x mb:Int}(hv:Yq v)(hm:0≤mb)(hx:0≤x) :Yq (Mw v x mb):=by
 have h:=D6 hv hm hx;have hb:=hv.bal;refine ⟨?_,hv.2⟩;simp only [Mw];exact dx
theorem bD {l:List Yd}{r:Rq}(h:Ur r l.length=true) : ∃(i:Nat) (v:Yd),r.ix=(i:Int)∧l[i]?=some v:=by
 have h':0≤r.ix∧r.ix < l.length:=of_decide_eq_true h;exact ⟨r.ix.toNat,l[r.ix.toNat]'Zp,by omega,Zf _⟩
theorem fW {l:List Yd}{r:Rq}{i:Nat}{v:Yd}(mb:Int)(hi:r.ix=(i:Int))(hv:l[i]?=some v) :Ur r l.length=true∧NI l r mb=DD v r.am mb∧EX l r mb=l.set i (Mw v r.am mb):=by
 have hl:=(Zh.1 hv).1;have h:Ur r l.length=true:=decide_eq_true Zp;refine ⟨h,?_,?_⟩
 ·rw [NI,if_pos h,hi,YX,Vg hv]
 ·rw [EX,if_pos h,hi,YX,Vg hv]
theorem xk (l:List Yd)(r:Rq)(mb:Int) :(EX l r mb).length=l.length:=by unfold EX; split <;> simp
theorem Dd (mb:Int)(q:List Rq) : ∀l,(XX mb l q).length=l.length:=by
 induction q with
 | nil=>intro l; rfl
 | cons p q ih=>intro l; rw [XX,ih,xk]
theorem xy (i x:Int) :(Lc i x).length≤1:=by unfold Lc; split <;> simp
theorem OQ (mb:Int)(q:List Rq) : ∀l,(Kf mb l q).length≤q.length:=by
 induction q with
 | nil=>intro l; simp [Kf]
 | cons p q ih=>intro l; simp only [Kf,ZN,List.length_cons]; have:=ih (EX l p mb); have:=xy p.ix (NI l p mb); omega
theorem WI (mb:Int)(r:Rq)(q:List Rq) : ∀l,XX mb l (q++[r])=EX (XX mb l q) r mb:=by
 induction q with
 | nil=>intro l; rfl
 | cons x q ih=>intro l; simp only [Ym,XX,ih]
theorem gO (mb:Int)(r:Rq)(q:List Rq) : ∀l,Kf mb l (q++[r])=Kf mb l q++Lc r.ix (NI (XX mb l q) r mb):=by
 induction q with
 | nil=>intro l; simp [Kf,XX]
 | cons x q ih=>intro l; simp only [Ym,XX,Kf,ih,List.append_assoc]
theorem Mu {α:Type}{q:List α}{k:Nat}{p:α}(h:q[k]?=some p) :q.take (k+1)=q.take k++[p]:=by rw [YN,h]; rfl
theorem cC {l:List Yd}{r:Rq}{mb:Int}(hm:0≤mb)(hr:0≤r.am)(h: ∀v ∈ l,Yq v) : ∀v ∈ EX l r mb,Yq v:=by
 unfold EX
 split
 ·rename_i hb
  obtain ⟨i,v,hi,hv⟩:=bD hb;rw [hi,YX,Vg hv];intro u hu
  rcases Qo hu with h1 | h1
  ·exact h u h1
  ·exact h1▸oC (h v (ZE hv)) hm hr
 ·exact h
theorem UY.am {r:Rq}(h:UY r) :0≤r.am∧r.am≤18446744073709551615:=bounds_u64 h.2
theorem Et (mb:Int)(hm:0≤mb)(q:List Rq) : ∀(l:List Yd),(∀r ∈ q,UY r)→(∀v ∈ l,Yq v)→ ∀v ∈ XX mb l q,Yq v:=by
 induction q with
 | nil=>intro l _ h; exact h
 | cons r q ih=>
  intro l hq h;rw [XX];exact ih _ (fun x hx=>hq x UT) (cC hm (hq r ZO).am.1 h)
def Uw (c:Nat→Int)(q:List Rq) :Nat:=min (c 16).toNat q.length
def KF (i:Nat) :List Py→Int
 | []=>0
 | p::ps=>(if p.ix=(i:Int) then p.am else 0)+KF i ps
theorem Er (i:Nat)(a b:List Py) :KF i (a++b)=KF i a+KF i b:=by
 induction a with
 | nil=>simp [KF]
 | cons p a ih=>simp only [Ym,KF,ih]; omega
theorem Mr (i:Nat){ps:List Py}(h: ∀p ∈ ps,0≤p.am) :0≤KF i ps:=by
 induction ps with
 | nil=>simp [KF]
 | cons p ps ih=>
  have h1:=h p ZO;have h2:=ih (fun x hx=>h x UT);simp only [KF]
  split <;> omega
theorem Pq (i:Nat){ps:List Py}(h: ∀p ∈ ps,0 < p.am)(j:Nat) :0≤KF i (ps.take j)∧KF i (ps.take j)≤KF i ps:=by
 have h1:=Mr i (ps:=ps.take j) (fun p hp=>Int.le_of_lt (h p (ZP hp)));have h2:=Mr i (ps:=ps.drop j) (fun p hp=>Int.le_of_lt (h p (Y6 hp)));have h3:=Er i (ps.take j) (ps.drop j);rw [XF] at h3;omega
theorem cz (i:Nat){ps:List Py}{j:Nat}{p:Py}(h:ps[j]?=some p) :KF i (ps.take (j+1))=KF i (ps.take j)+if p.ix=(i:Int) then p.am else 0:=by
 rw [Mu h,Er];simp [KF]
theorem fR (i:Nat)(j x:Int) :KF i (Lc j x)=if j=(i:Int) then x else 0:=by
 unfold Lc
 split
 ·rename_i h; subst h; simp [KF]
 ·simp [KF]
def Ce (mb:Int)(v v':Yd)(x:Int) :Prop:=v'= { v with bal:=v.bal - x}∧0≤x∧(x=0∨(v.st=2∧v.sl=false∧mb≤v.bal - x))
theorem rz {v:Yd}{x mb:Int}(hv:Yq v)(hm:0≤mb)(hx:0≤x) :Ce mb v (Mw v x mb) (DD v x mb):=by
 refine ⟨rfl,(D6 hv hm hx).1,?_⟩;have h:=(D6 hv hm hx)
 by_cases h0:DD v x mb=0
 ·exact .inl h0
 ·refine .inr ?_;have ha:Ba v mb≠0:=by omega
  unfold Ba at ha;have hb:=h.2.2.1;unfold Ba at hb
  split at ha
  ·omega
  ·rename_i h1
   split at ha
   ·omega
   ·rename_i h2
    split at ha
    ·rename_i h3
     rw [if_neg h1,if_neg h2,if_pos h3] at hb;exact ⟨by simpa using h1,by simpa using h2,by omega⟩
    ·omega
theorem Ce.trans {mb:Int}{a b c:Yd}{x y:Int}(h:Ce mb a b x)(k:Ce mb b c y) :Ce mb a c (x+y):=by
 obtain ⟨rfl,h1,h2⟩:=h;obtain ⟨rfl,k1,k2⟩:=k;refine ⟨by simp [Int.sub_sub],by omega,?_⟩;simp only at k2
 rcases k2 with k2 | ⟨k2,k3,k4⟩
 ·subst k2
  rcases h2 with h2 | ⟨h2,h3,h4⟩
  ·exact .inl Zp
  ·exact .inr ⟨h2,h3,by omega⟩
 ·exact .inr ⟨k2,k3,by omega⟩
theorem Ce.zero {mb:Int}(v:Yd) :Ce mb v v 0:=⟨by simp,Int.le_refl _,.inl rfl⟩
theorem DJ (mb:Int)(hm:0≤mb)(q:List Rq) : ∀(l:List Yd),(∀r ∈ q,UY r)→(∀v ∈ l,Yq v)→
  (∀i v,l[i]?=some v→ ∃v',(XX mb l q)[i]?=some v'∧Ce mb v v' (KF i (Kf mb l q)))∧
  ∀p ∈ Kf mb l q,0 < p.am∧p.fu=false∧ ∃(i:Nat) (v:Yd),p.ix=(i:Int)∧l[i]?=some v∧v.st=2∧v.sl=false:=by
 induction q with
 | nil=>exact fun l _ _=>⟨fun i v hv=>⟨v,hv,Ce.zero v⟩,fun p hp=>by simp [Kf] at hp⟩
 | cons r q ih=>
  intro l hq hl;have hr:=(hq r ZO).am;have lW: ∀x ∈ q,UY x:=fun x hx=>hq x UT
  obtain ⟨i1,i2⟩:=ih (EX l r mb) lW (cC hm hr.1 hl)
  by_cases hb:Ur r l.length=true
  ·obtain ⟨k,u,hk,hu⟩:=bD hb;obtain ⟨_,e1,e2⟩:=fW mb hk hu;have nP:=(Zh.1 hu).1;have P1:=rz (hl u (ZE hu)) hm hr.1;simp only [XX,Kf];rw [e2] at i1 i2 ⊢;rw [e1];refine ⟨fun i v hv=>?_,fun p hp=>?_⟩
   ·rw [Er,fR]
    by_cases tO:i=k
    ·subst tO;rw [hu] at hv;injection hv with hv;subst hv;rw [if_pos hk];obtain ⟨v',g1,g2⟩:=i1 i (Mw u r.am mb) (by rw [YQ nP]);exact ⟨v',g1,P1.trans g2⟩
    ·rw [if_neg Zp];obtain ⟨v',g1,g2⟩:=i1 i v (by rw [YG (Ne.symm tO)]; exact hv);refine ⟨v',g1,?_⟩;rw [Int.zero_add];exact g2
   ·rcases YK.1 hp with hp | hp
    ·unfold Lc at hp
     split at hp
     ·cases hp
     ·rename_i h0
      rw [Y5] at hp;subst hp;refine ⟨by have:=P1.2.1; simp only; omega,rfl,k,u,hk,hu,?_⟩
      rcases P1.2.2 with h | h
      ·omega
      ·exact ⟨h.1,h.2.1⟩
    ·obtain ⟨h1,h2,i,v,h3,h4,h5,h6⟩:=i2 p hp;refine ⟨h1,h2,i,?_⟩
     by_cases tO:i=k
     ·subst tO;rw [YQ nP] at h4;injection h4 with h4;subst h4;exact ⟨u,h3,hu,h5,h6⟩
     ·rw [YG (Ne.symm tO)] at h4;exact ⟨v,h3,h4,h5,h6⟩
  ·have e2:EX l r mb=l:=by unfold EX; rw [if_neg hb]
   have e1:NI l r mb=0:=by unfold NI; rw [if_neg hb]
   simp only [XX,Kf];rw [e2] at i1 i2 ⊢;rw [e1,show Lc r.ix 0=[] from rfl,List.nil_append];exact ⟨i1,i2⟩
end
section
open Go Go.RowKit Go.Deep
section
variable {w w' a:Zc} {g t:Nat} {S:Nat→Prop}
def P4 (w:Zc)(g cap n:Nat)(l:List QO) :Prop:=
 l.length=n∧n≤cap∧cap≤maxLen∧ ∃rest:List Zo,rest.length=(cap - n)*2∧Zy w g 315 (X6 l++rest).toArray
theorem Lh {base cap n:Nat}{l:List QO}(h:w.ownsRow base 315 2 (.slice (some ⟨g,0,none⟩) n cap) n (X6 l)) :P4 w g cap n l:=by
 have hl:=h.1;rw [Uo] at hl
 rcases h.2 with ⟨h1,_⟩ | ⟨g',Bp,cur,h1,h2,h3,h4,h5,h6,h7⟩
 ·cases h1
 ·injection h1 with h1 _ qa;injection h1 with h1;injection h1 with h1;subst h1 qa;have e:cur=(X6 l++cur.toList.drop (n*2)).toArray:=by rw [←h7,XF]
  refine ⟨by omega,h4,h5,cur.toList.drop (n*2),?_,by rw [←e]; exact h3⟩;rw [List.length_drop,Array.length_toList,h6,Nat.sub_mul]
theorem P4.owns {base cap n:Nat}{l:List QO}(h:P4 w g cap n l)(hb:base≤g) :w.ownsRow base 315 2 (.slice (some ⟨g,0,none⟩) n cap) n (X6 l):=by
 obtain ⟨h1,h2,h3,rest,h4,h5⟩:=h;refine ⟨by rw [Uo,h1],.inr ⟨g,cap,_,rfl,hb,h5,h2,h3,?_,?_⟩⟩
 ·simp only [List.size_toArray,ZN,Uo,h4,h1];have:n*2≤cap*2:=Nat.mul_le_mul_right 2 h2;rw [Nat.sub_mul]; omega
 ·rw [List.toList_toArray,List.take_left' (by rw [Uo,h1])]
section
variable {cap n i j:Nat} {l:List QO} {x y v Qi:QO} {X Y L R Q:List QO}
theorem P4.lt (h:P4 w g cap n l) :g < w.heap.size:=by
 obtain ⟨_,_,_,rest,_,h5⟩:=h;exact h5.lt
theorem P4.same (h:P4 w g cap n l)(hb:w'.heap[g]?=w.heap[g]?) :P4 w' g cap n l:=by
 obtain ⟨h1,h2,h3,rest,h4,h5⟩:=h;exact ⟨h1,h2,h3,rest,h4,hb.trans h5⟩
theorem P4.drew (h:P4 w g cap n l) :P4 w.drew g cap n l:=h
theorem P4.drewN (h:P4 w g cap n l)(m:Nat) :P4 (w.drewN m) g cap n l:=h
theorem P4.below (h:P4 w g cap n l)(hb:Zt w.heap.size w w') :P4 w' g cap n l:=h.same (hb.block g h.lt)
theorem P4.at (h:P4 w g cap n l)(hi:l[i]?=some x) :w.rangeAt g (i*2) (BH x):=by
 obtain ⟨h1,h2,h3,rest,h4,h5⟩:=h;have:=OI (w:=w) (b:=g) (off:=0) (l:=l) (fun k u hu=>by
  rw [h5.cell,Yb,YY,List.getElem?_append_left (Zh.1 hu).1];exact hu) hi
 rwa [Yb] at this
theorem P4.set (h:P4 w g cap n (X++Qi::Y))(hi:X.length=i)(v:QO) :P4 (w.setCells g (i*2) (BH v)) g cap n (X++v::Y)∧w.there g (i*2) 2:=by
 obtain ⟨h1,h2,h3,rest,h4,h5⟩:=h;have e1:X6 (X++Qi::Y)++rest=X6 X++BH Qi++(X6 Y++rest):=by simp [X6]
 have e2:X6 (X++v::Y)++rest=X6 X++BH v++(X6 Y++rest):=by simp [X6]
 rw [e1] at h5;have hX:(X6 X).length=i*2:=by rw [Uo,hi]
 have Gk:=UG (BH v) (X6 X) (BH Qi) (X6 Y++rest) w rfl h5;rw [hX] at Gk;refine ⟨⟨by simpa using h1,h2,h3,rest,h4,by rw [e2]; exact Gk⟩,fun j hj=>⟨?_,h5.frozen _⟩⟩;rw [h5.cell,Array.getElem?_eq_getElem (by simp [Uo,hi,DI]; omega)];rfl
end
end
end
section
open Go Go.RowKit Go.Deep
def bk (n:Nat)(L:List QO)(j:Nat) :List QO:=L.filter fun e=>e.1%(n:Int)==(j:Int)
def OkE (L:List QO) :Prop:= ∀e ∈ L,0≤e.1∧e.1≤1099511627776
theorem Cs (n:Nat)(L:List QO)(j:Nat) :(bk n L j).length≤L.length:=List.length_filter_le _ _
theorem WU (n:Nat)(L M:List QO)(j:Nat) :bk n (L++M) j=bk n L j++bk n M j:=List.filter_append _ _
theorem oP {n j:Nat}{e:QO}(h:e.1%(n:Int)=(j:Int))(i:Nat) :bk n [e] i=if i=j then [e] else []:=by
 unfold bk
 by_cases hi:i=j
 ·subst hi; simp [h]
 ·rw [if_neg hi];have: ¬e.1%(n:Int)=(i:Int):=by omega
  simp [this]
theorem WV (n:Nat)(L:List QO)(j:Nat)(p:QO→Bool) :bk n (L.filter p) j=(bk n L j).filter p:=by
 unfold bk;rw [List.filter_filter,List.filter_filter]
 congr 1
 funext e
 rw [Bool.and_comm]
theorem oO {n j:Nat}{ep:Int}(h:ep%(n:Int)=(j:Int))(L:List QO) :(bk n L j).filter (fun e=>e.1==ep)=L.filter fun e=>e.1==ep:=by
 unfold bk;rw [List.filter_filter]
 congr 1
 funext e
 by_cases he:e.1=ep
 ·simp [he,h]
 ·simp [he]
theorem oQ {n i j:Nat}{ep:Int}(h:ep%(n:Int)=(j:Int))(hi:i≠j)(L:List QO) :(bk n L i).filter (fun e=>!(e.1==ep))=bk n L i:=by
 rw [List.filter_eq_self];intro e he;have:=(List.mem_filter.1 he).2;simp only [beq_iff_eq] at this;simp only [Bool.not_eq_true',beq_eq_false_iff_ne,ne_eq];rintro rfl;omega
structure KV (w:Zc)(b B n:Nat)(ss:List Zo)(L:List QO) :Prop where
 own:Zy w b 224 #[.slice (some ⟨B,0,none⟩) n n]
 bks:Zy w B 206 ss.toArray
 len:ss.length=n
 pos:1≤n
 top:n≤4096
 row: ∀(j:Nat) (s:Zo),ss[j]?=some s→w.ownsRow 0 315 2 s (bk n L j).length (X6 (bk n L j))
 apart: ∀(i j:Nat) (s t:Zo) (q:Nat),i≠j→ss[i]?=some s→ss[j]?=some t→s.ownBlock=some q→t.ownBlock≠some q
 ok:OkE L
def GW (w:Zc)(b:Nat)(S:Nat→Prop)(n:Nat)(L:List QO) :Prop:=
 ∃B ss,KV w b B n ss L∧ ∀i,S i ↔ i=b∨i=B∨ ∃s:Zo,s ∈ ss∧s.ownBlock=some i
theorem Ep {w:Zc}{s:Zo}{n:Nat}{xs:List Zo}(h:w.ownsRow 0 315 2 s n xs) : ∃a cp,s= .slice a n cp∧n≤cp∧cp≤maxLen:=by
 exact ZgG
theorem UL {w w':Zc}{base e k:Nat}{s:Zo}{n:Nat}{xs:List Zo}(h:w.ownsRow base e k s n xs)(hb: ∀i,s.ownBlock=some i→w'.heap[i]?=w.heap[i]?) :w'.ownsRow base e k s n xs:=by
 exact Zg1
theorem cx {w:Zc}{base e k:Nat}{s:Zo}{n:Nat}{xs:List Zo}{q t:Nat}{cs:Array Zo}(h:w.ownsRow base e k s n xs)(hq:s.ownBlock=some q)(hb:Zy w q t cs) :t=e:=by
 rcases h.2 with ⟨rfl,_⟩ | ⟨g,cp,cur,rfl,_,h3,_⟩
 ·cases hq
 ·injection hq with hq;have hq:g=q:=hq;subst hq;unfold Zy at hb;rw [h3] at hb;injection hb with hb;injection hb with _ hb;exact hb.symm
section
variable {w w':Zc} {b B n j:Nat} {s s':Zo} {ss:List Zo} {L L':List QO} {S T:Nat→Prop}
theorem KV.ne (h:KV w b B n ss L) :b≠B:=h.own.ne_ h.bks Xh
theorem KV.not (h:KV w b B n ss L)(hs:ss[j]?=some s) :s.ownBlock≠some b∧s.ownBlock≠some B:=
 ⟨fun e=>absurd (cx (h.row j s hs) e h.own) Xh,fun e=>absurd (cx (h.row j s hs) e h.bks) Xh⟩
theorem KV.get (h:KV w b B n ss L)(hj:j < n) : ∃s,ss[j]?=some s:=⟨_,Zf (by rw [h.len]; exact hj)⟩
theorem KV.cells (h:KV w b B n ss L)(hs:ss[j]?=some s) :w.cell? ⟨b,0,none⟩=some (.slice (some ⟨B,0,none⟩) n n)∧w.cell? ⟨B,j,none⟩=some s:=
 ⟨h.own.cell 0,by rw [h.bks.cell j,YY]; exact hs⟩
theorem KV.same (h:KV w b B n ss L)(hb:w'.heap[b]?=w.heap[b]?)(hB:w'.heap[B]?=w.heap[B]?)(hs: ∀s:Zo,s ∈ ss→ ∀i,s.ownBlock=some i→w'.heap[i]?=w.heap[i]?) :KV w' b B n ss L:=
 ⟨hb.trans h.own,hB.trans h.bks,h.len,h.pos,h.top,fun j s hj=>UL (h.row j s hj) (hs s (ZE hj)),h.apart,h.ok⟩
theorem KV.lt (h:KV w b B n ss L)(hs:s ∈ ss){i:Nat}(hi:s.ownBlock=some i) :i < w.heap.size:=by
 obtain ⟨j,hj⟩:=List.mem_iff_getElem?.1 hs;exact ((h.row j s hj).lt i hi).2
theorem KV.upd (h:KV w b B n ss L)(hj:ss[j]?=some s)(hb:w'.heap[b]?=w.heap[b]?)(hB:Zy w' B 206 (ss.set j s').toArray)
  (hs: ∀(i:Nat) (t:Zo),i≠j→ss[i]?=some t→ ∀q,t.ownBlock=some q→w'.heap[q]?=w.heap[q]?) (hr:w'.ownsRow 0 315 2 s' (bk n L' j).length (X6 (bk n L' j))) (ho: ∀i,i≠j→bk n L' i=bk n L i)
  (hn:s'.ownBlock=s.ownBlock∨ ∃q,s'.ownBlock=some q∧w.heap.size≤q) (Og:OkE L') :KV w' b B n (ss.set j s') L':=by
 have Df:=(Zh.1 hj).1;have pick: ∀ {i t},(ss.set j s')[i]?=some t→(i=j∧t=s')∨(i≠j∧ss[i]?=some t):=fun {i t} hi=>by
  by_cases e:j=i
  ·subst e;rw [YQ Df] at hi;exact .inl ⟨rfl,(Option.some.inj hi).symm⟩
  ·rw [YG e] at hi;exact .inr ⟨fun h=>e h.symm,hi⟩
 refine ⟨hb.trans h.own,hB,by rw [List.length_set]; exact h.len,h.pos,h.top,fun i t hi=>?_,fun i k x y q tO hx hy hq=>?_,Og⟩
 ·rcases pick hi with ⟨rfl,rfl⟩ | ⟨Kt,hi⟩
  ·exact hr
  ·rw [ho i Kt];exact UL (h.row i t hi) (hs i t Kt hi)
 ·rcases pick hx with ⟨rfl,rfl⟩ | ⟨Kt,wG⟩
  ·rcases pick hy with ⟨rfl,rfl⟩ | ⟨hne2,hy⟩
   ·exact absurd rfl tO
   ·rcases hn with hn | ⟨q',hn,hl⟩
    ·exact h.apart _ _ _ _ q tO hj hy (by rw [←hn]; exact hq)
    ·intro e;have:=h.lt (ZE hy) e;rw [hn] at hq;injection hq with hq;omega
  ·rcases pick hy with ⟨rfl,rfl⟩ | ⟨hne2,hy⟩
   ·rcases hn with hn | ⟨q',hn,hl⟩
    ·intro e;exact h.apart _ _ _ _ q tO wG hj hq (by rw [←hn]; exact e)
    ·intro e;have:=h.lt (ZE wG) hq;rw [hn] at e;injection e with e;omega
   ·exact h.apart _ _ _ _ q tO wG hy hq
theorem GW.lt (h:GW w b S n L) : ∀i,S i→i < w.heap.size:=fun i hi=>by
 obtain ⟨B,ss,hp,hS⟩:=h
 rcases (hS i).1 hi with rfl | rfl | ⟨s,hs,hq⟩
 ·exact hp.own.lt
 ·exact hp.bks.lt
 ·exact hp.lt hs hq
theorem GW.same (h:GW w b S n L)(hb: ∀i,S i→w'.heap[i]?=w.heap[i]?) :GW w' b S n L:=by
 obtain ⟨B,ss,hp,hS⟩:=h;exact ⟨B,ss,hp.same (hb b ((hS b).2 (.inl rfl))) (hb B ((hS B).2 (.inr (.inl rfl)))) (fun s hs i hi=>hb i ((hS i).2 (.inr (.inr ⟨s,hs,hi⟩)))),hS⟩
theorem GW.kept (h:GW w b S n L)(k:Kept T w w')(hT: ∀i,S i→ ¬T i) :GW w' b S n L:=h.same fun i hi=>k.block i (h.lt i hi) (hT i hi)
theorem GW.below (h:GW w b S n L)(k:Zt w.heap.size w w') :GW w' b S n L:=h.same fun i hi=>k.block i (h.lt i hi)
theorem GW.alloc (h:GW w b S n L)(o:Obj) :GW (w.alloc o) b S n L:=h.below ((Zr _ _).alloc (Zg _) o)
theorem GW.drewN (h:GW w b S n L)(m:Nat) :GW (w.drewN m) b S n L:=h.same fun _ _=>rfl
theorem GW.drew (h:GW w b S n L) :GW w.drew b S n L:=h.same fun _ _=>rfl
theorem GW.fits (h:GW w b S n L) :1≤n∧n≤4096∧OkE L:=by
 obtain ⟨B,ss,hp,hS⟩:=h;exact ⟨hp.pos,hp.top,hp.ok⟩
end
end
section
open Go Go.RowKit Go.Deep
theorem l9 (n:Nat) :madeCells #[.slice none 0 0] n=(ZF n (Yr none 0 0)).toArray:=by
 apply Array.ext
 ·simp [madeCells]
 ·intro i h1 h2;simp [madeCells,Nat.mod_one]
theorem gL: ∃i,Tryz.prog.info? 206=some i∧i.zero=some (.slice none 0 0)∧i.size=1∧i.bytes=24:=by
 have h:(Tryz.prog.info? 206).map (fun i=>(i.zero,i.size,i.bytes))=some (some (.slice none 0 0),1,24):=by kernel_rfl
 cases hi:Tryz.prog.info? 206 with
 | none=>rw [hi] at h; cases h
 | some i=>
  rw [hi] at h;simp at h;exact ⟨i,rfl,h.1,h.2.1,h.2.2⟩
theorem fJ (n:Nat)(w:Zc)(h1:1≤n)(h2:n≤4096) :
  Zi Zb 78 #[.int .i64 n] w fun e w'=>e= .returned (.pointer (some ⟨w.heap.size+1,0,none⟩))∧(w.alloc (.cells (ZF n (Yr none 0 0)).toArray 206)).alloc (.cells #[.slice (some ⟨w.heap.size,0,none⟩) n n] 224)=w':=by
 obtain ⟨i,hi,hz,hs,Hu⟩:=gL;have Dt:=fun w=>Q6 (P:=Zb) 222 206 i _ Tryz.underlying222 hi hz .i64 .i64 n n (Zg _) TW Zp w
 rw [hs,Nat.mul_one] at Dt;have tV:(Yr none 0 0).cells= #[.slice none 0 0]:=rfl;rw [tV,l9] at Dt;have h0: ¬(n:Int)< 1:=by omega
 have h3: ¬(4096:Int)< (n:Int):=by omega
 generalize (ZF n (Yr none 0 0)).toArray=cs at*;clear hi hz hs Hu tV h1 h2;go_enter Tryz.func78,Tryz.ntmps78;exact Vr
theorem fG (n:Nat)(w:Zc)(h1:1≤n)(h2:n≤4096) :
  Zi Zb 78 #[.int .i64 n] w fun e w'=> ∃b S,e= .returned (.pointer (some ⟨b,0,none⟩))∧GW w' b S n []∧(∀i,S i→w.heap.size≤i)∧Zt w.heap.size w w':=by
 refine (fJ n w h1 h2).mono ?_;rintro e w' ⟨rfl,rfl⟩;refine ⟨w.heap.size+1,fun i=>i=w.heap.size+1∨i=w.heap.size,rfl,?_,fun i hi=>by omega,((Zr _ _).alloc (Zg _) _).alloc ZO _⟩;refine ⟨w.heap.size,ZF n (.slice none 0 0),⟨?_,?_,by simp,h1,h2,fun j s hj=>?_,fun i j s t q _ hs _ hq=>?_,fun e he=>by simp at he⟩,fun i=>?_⟩
 ·have:=Zy.new (w.alloc (.cells (ZF n (Yr none 0 0)).toArray 206)) 224 #[.slice (some ⟨w.heap.size,0,none⟩) n n];rwa [World.size_alloc] at this
 ·exact Zy.alloc (Zy.new w _ _) _
 ·obtain ⟨_,rfl⟩:=List.mem_replicate.1 (ZE hj);exact Xj _ _ _ _
 ·obtain ⟨_,rfl⟩:=List.mem_replicate.1 (ZE hs)
  cases hq
 ·constructor
  ·rintro (h | h)
   ·exact .inl h
   ·exact .inr (.inl h)
  ·rintro (h | h | ⟨s,hs,hq⟩)
   ·exact .inl h
   ·exact .inr h
   ·obtain ⟨_,rfl⟩:=List.mem_replicate.1 hs
    cases hq
theorem ML (b n j cp:Nat)(a:Option Addr)(ep:Int)(w:Zc)(hb:w.cell? ⟨b,0,none⟩=some (.slice a n cp))(hn:1≤n)(e8:n≤4096)(h0:0≤ep)(h1:ep≤1099511627776)(hj:ep%(n:Int)=(j:Int)) :
  Zi Zb 251 #[.pointer (some ⟨b,0,none⟩),.int .i64 ep] w fun e w'=>e= .returned (.tuple #[.int .i64 j,.bool true])∧w=w':=by
 have h2: ¬ep < 0:=by omega
 have h3: ¬1099511627776 < ep:=by omega
 have hnz:((n:Int)==0)=false:=by simp; omega
 have hnz2: ¬(n:Int)=0:=by omega
 have hnz3:(0:Int)< (n:Int):=by omega
 go_enter Tryz.func251,Tryz.ntmps251;exact TY
end
section
open Go Go.RowKit Go.Deep
theorem CD: ∃i,Tryz.prog.info? 315=some i∧i.zero=some (.agg #[.int .i64 0,.int .i64 0])∧i.size=2∧i.bytes=16:=by
 have h:=Zcm
 cases hi:Tryz.prog.info? 315 with
 | none=>rw [hi] at h; cases h
 | some i=>
  rw [hi] at h;simp at h;exact ⟨i,rfl,h.1,h.2.1,h.2.2⟩
theorem Af:(Tryz.prog.info? 315).map (fun i=>(i.zero,i.size))=some (some (.agg #[.int .i64 0,.int .i64 0]),2):=by
 obtain ⟨i,hi,h1,h2,h3⟩:=CD;rw [hi];simp [h1,h2]
theorem jw (w:Zc)(e:QO)(t:TypeId) : ∀j u,(BH e)[j]?=some u→(w.alloc (.cells (JF e) t)).cell? ((⟨w.heap.size,0,none⟩ :Addr).add j)=some u:=fun j u hu=>by
 rw [add_plain,Yb,(Zy.new w t (JF e)).cell j];simpa [JF] using hu
theorem rI {w w3:Zc}{b B n j:Nat}{s s':Zo}{ss:List Zo}{L:List QO}{e:QO}(h:KV w b B n ss L)(hs:ss[j]?=some s)(hj:e.1%(n:Int)=(j:Int))(he:0≤e.1∧e.1≤1099511627776)
  (hk:Kept (fun i=>s.ownBlock=some i) w w3) (ho:w3.ownsRow 0 315 2 s' ((bk n L j).length+1) (X6 (bk n L j)++BH e)) (hn:s'.ownBlock=s.ownBlock∨ ∃q,s'.ownBlock=some q∧w.heap.size≤q) :
  KV (w3.setCell ⟨B,j,none⟩ s') b B n (ss.set j s') (L++[e]):=by
 have Fw:=h.not hs;have Df:=(Zh.1 hs).1;have hBne: ∀q,s'.ownBlock=some q→q≠B:=fun q hq e=>by
  rcases hn with hn | ⟨q',hn,hl⟩
  ·exact Fw.2 (by rw [←hn,hq,e])
  ·rw [hq] at hn;injection hn with hn;have:=h.bks.lt;omega
 have vM:w3.heap[B]?=w.heap[B]?:=hk.block B h.bks.lt Fw.2;have e1:bk n (L++[e]) j=bk n L j++[e]:=by rw [WU,oP hj,if_pos rfl]
 refine h.upd hs ?_ ?_ (fun i t hij ht q hq=>?_) ?_ (fun i hi=>by rw [WU,oP hj,if_neg hi,List.append_nil]) hn (fun x hx=>?_)
 ·exact ZaP
 ·exact Zaf
 ·exact Zgy
 ·rw [e1];refine UL (w:=w3) ?_ (fun q hq=>Below.heap_setCell _ _ _ _ (hBne q hq));rw [ZN,List.length_singleton,Hq,aZ];exact ho
 ·rcases YK.1 hx with hx | hx
  ·exact h.ok x hx
  ·rw [Y5.1 hx]; exact he
theorem xw (b B n j:Nat)(ss:List Zo)(s:Zo)(L:List QO)(ep it:Int)(w:Zc)(h:KV w b B n ss L)(hs:ss[j]?=some s)(h0:0≤ep)(h1:ep≤1099511627776)(hj:ep%(n:Int)=(j:Int))(hL:L.length≤100000) :
  Zi Zb 196 #[.pointer (some ⟨b,0,none⟩),.int .i64 ep,.int .i64 it] w fun e w'=>e= .returned (.bool true)∧ ∃s',KV w' b B n (ss.set j s') (L++[(ep,it)])∧(s'.ownBlock=s.ownBlock∨ ∃q,s'.ownBlock=some q∧w.heap.size≤q)∧Kept (fun i=>i=B∨s.ownBlock=some i) w w':=by
 have Da:j < n:=by exact th
 have VZ:=h.row j s hs;have hq:=Cs n L j;obtain ⟨a,cp,rfl,qa,qc⟩:=Ep VZ;obtain ⟨x0,x1⟩:=h.cells hs;have Fw:=h.not hs;have HN:=Za (ML b n j n (some ⟨B,0,none⟩) ep w x0 h.pos h.top h0 h1 hj);have uG:Hid (∀i,(Yr a (bk n L j).length cp).ownBlock=some i→i < w.heap.size):=Za (fun i hi=>(VZ.lt i hi).2);have Mf:=h.own.lt;have hBl:=h.bks.lt;have HH:=Za h;have HS:=Za hs;have HJ:=Za hj;have HR:=Za VZ;have HE:=Za (And.intro h0 h1);have uH:=Za Fw;have hj1: ¬(j:Int)< 0:=by omega
 have zI: ¬(n:Int)≤(j:Int):=by omega
 have hj3:(j:Int)< (n:Int):=by omega
 obtain ⟨q,hqe⟩ : ∃q,(bk n L j).length=q:=⟨_,rfl⟩;rw [hqe] at hq uG HR uH qa x1;have HQ:=Za hqe;clear h hs VZ Fw hj hqe;rw [HQ.out] at HS ⊢;obtain ⟨n0,Mm⟩ : ∃k,w.heap.size=k:=⟨_,rfl⟩;go_enter Tryz.func196,Tryz.ntmps196;go_wp2_with fail;refine HN.out.mono ?_;rintro e w' ⟨rfl,rfl⟩;go_wp2_with fail;refine MZ (fun _=>True) 18 18 [] trivial ?_;refine Zj ?_;refine KX (fun w'=>w'.cell? ⟨b,0,none⟩=some (.slice (some ⟨B,0,none⟩) n n)∧w'.cell? ⟨B,j,none⟩=some (.slice a q cp)) (m:=18) (f:=3) [0,1,2,3,4,5,6,7,8,9,10,11,12,13,14] (fun _ _=>trivial) Yi ⟨x0,x1⟩ ?_;simp only [qF,qH];show wpQuiet _ _ _ _ [_,_,_,_,_,_,_,_,_,_,_,_,_,_,_] _;iterate 3 (go_big_quiet_step ((intros; rfl)))
 refine Yw 222 _ _ (.slice (some ⟨B,0,none⟩) n n) rfl rfl rfl (fun w h=>by simp [go_sem,h]) (fun w h=>h.1) ?_;simp only [qB];iterate 4 (go_big_quiet_step ((intros; rfl)))
 refine Yw 222 _ _ (.slice (some ⟨B,0,none⟩) n n) rfl rfl rfl (fun w h=>by simp [go_sem,h]) (fun w h=>h.1) ?_;simp only [qB];iterate 2 (go_big_quiet_step ((intros; rfl)))
 refine Yw 206 _ _ (.slice a q cp) rfl rfl rfl (fun w h=>by simp [go_sem,h]) (fun w h=>h.2) ?_;simp only [qB];iterate 3 (go_big_quiet_step ((intros; rfl)))
 refine Zj ?_;refine Qt (i:=15) ?_;refine YE rfl rfl (Jq 206 315 (.tmp 31) _ (.int .i64 ep) (.int .i64 it) rfl rfl GG Af ⟨⟨ZK _ x0,ZK _ x1⟩,?_⟩);refine Qt (i:=16) ?_;simp only [Act.put,qG,qS];obtain ⟨i,hi,hz,M4,Hu⟩:=CD;refine YE rfl rfl (Ey _ (.tmp 28) (.tmp 32) 206 rfl 0 315 i _ 2 16 GG hi hz M4 Hu rfl Zp (.slice a q cp) q (X6 (bk n L j)) rfl (World.ownsRow.alloc (w:=w.drew) HR.out _)
  (some ⟨w.drew.heap.size,0,none⟩) 1 1 (BH (ep,it)) rfl rfl (fun _=>⟨_,rfl,jw w.drew (ep,it) _⟩) (MN _) US Zp Zp ?_)
 intro s' w3 ho3 hg3 hs3;have HK3:Hid (Kept (fun i=>(Yr a q cp).ownBlock=some i) w w3):=Za (((Kept.refl _ w).drew.alloc _).trans (Kept.of_grown hg3 (S:=fun i=>(Yr a q cp).ownBlock=some i) (fun i hi=>hi.symm)) (fun _ _ h=>h));have P3:Hid (w3.ownsRow 0 315 2 s' (q+1) (X6 (bk n L j)++BH (ep,it))):=Za ho3;have HS3:Hid (s'.ownBlock=(Yr a q cp).ownBlock∨ ∃p,s'.ownBlock=some p∧w.heap.size≤p):=Za (hs3.imp id (fun h=>⟨_,h,by simp⟩));have y0:=HK3.out.cell (p:=⟨b,0,none⟩) uH.out.1 x0;have y1:=HK3.out.cell (p:=⟨B,j,none⟩) uH.out.2 x1;obtain ⟨a',Bp,rfl,-,-⟩:=Ep ho3;refine ⟨⟨y0,y1⟩,?_⟩;clear ho3 hg3 hs3 hi hz M4 Hu;simp only [Act.put,qG,qS];refine Wv (fun w'=>w'.cell? ⟨b,0,none⟩=some (.slice (some ⟨B,0,none⟩) n n)∧w'.cell? ⟨B,j,none⟩=some (.slice a q cp)) (m:=1) (f:=0) [17] ⟨y0,y1⟩ ?_;simp only [qF,qH];show wpQuiet _ _ _ _ [_] _;iterate 1 (go_big_quiet_step ((intros; rfl)))
 refine Zj ?_;show Region.seqB _ _ _ _ _=true∧_;refine ⟨by kernel_rfl,?_⟩;simp only [qA];have z1:w3.frozen? ⟨B,j,none⟩=false:=by
  rw [HK3.out.frozen (p:=⟨B,j,none⟩) uH.out.2 hBl];exact HH.out.bks.frozen j
 go_wp2;refine NoPanic.normal ?_;go_wp2;go_ret;refine ⟨rfl,.slice a' (q+1) Bp,?_,HS3.out,?_⟩
 ·have hhs:=HS.out;exact rI HH.out hhs HJ.out HE.out HK3.out (by rw [HQ.out]; exact P3.out) HS3.out
 ·exact (HK3.out.more (fun _ _ h=> .inr h)).setCell (.inl (.inl rfl)) _
theorem gg (b n:Nat)(S:Nat→Prop)(L:List QO)(ep it:Int)(w:Zc)(h:GW w b S n L)(h0:0≤ep)(h1:ep≤1099511627776)(hL:L.length≤100000) :
  Zi Zb 196 #[.pointer (some ⟨b,0,none⟩),.int .i64 ep,.int .i64 it] w fun e w'=>e= .returned (.bool true)∧ ∃S',GW w' b S' n (L++[(ep,it)])∧(∀i,S' i→S i∨w.heap.size≤i)∧Kept S w w':=by
 obtain ⟨B,ss,hp,hS⟩:=h;obtain ⟨j,hj⟩ : ∃j:Nat,ep%(n:Int)=(j:Int):=⟨(ep%(n:Int)).toNat,by have:=Int.emod_nonneg ep (b:=(n:Int)) IT; omega⟩;have Da:j < n:=by exact ZaC
 obtain ⟨s,hs⟩:=hp.get Da;refine (xw b B n j ss s L ep it w hp hs h0 h1 hj hL).mono ?_;rintro e w' ⟨he,s',h2,h3,h4⟩;refine ⟨he,fun i=>i=b∨i=B∨ ∃s:Zo,s ∈ ss.set j s'∧s.ownBlock=some i,⟨B,_,h2,fun _=>Iff.rfl⟩,?_,h4.more (fun i _ hi=>?_)⟩
 ·rintro i (rfl | rfl | ⟨t,ht,hq⟩)
  ·exact .inl ((hS _).2 (.inl rfl))
  ·exact .inl ((hS _).2 (.inr (.inl rfl)))
  ·rcases Qo ht with ht | rfl
   ·exact .inl ((hS i).2 (.inr (.inr ⟨t,ht,hq⟩)))
   ·rcases h3 with h3 | ⟨q,h3,hl⟩
    ·exact .inl ((hS i).2 (.inr (.inr ⟨s,ZE hs,by rw [←h3]; exact hq⟩)))
    ·rw [hq] at h3;injection h3 with h3;exact .inr Zp
 ·exact ZgY
end
end Go.Proofs.YtianiiijaopdpaaGreat
