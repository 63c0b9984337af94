/- Part 54 of 58: L21Paid. -/
import Derived.Test.YtianiiijaopdpaaGreatZu00
import Derived.Test.YtianiiijaopdpaaGreatZu35
import Derived.Deep.CutRange
namespace Go.Proofs.YtianiiijaopdpaaGreat
set_option linter.unusedVariables false
set_option linter.unusedSimpArgs false
set_option maxRecDepth 100000
set_option maxHeartbeats 8000000
open _root_.Go.RowKit renaming Below → Zt
open _root_.Go.Lib renaming hid → Za
open _root_.List renaming getElem?_eq_getElem → Zf, take_add_one → YN, take_append_drop → XF, take_of_length_le → Yn
open _root_.Go.World renaming setRow_alloc_new → Zu
section
open Go Go.RowKit Go.Deep
def dY (p:List Pm) :List Int:=p.map (·.am)
def BX (P:List (List Pm)) :List Int:=P.flatMap dY
def sI:List Int→Int
 | []=>0
 | x::l=>x+sI l
theorem OM (a b:List Int) :sI (a++b)=sI a+sI b:=by
 induction a with
 | nil=>simp [sI]
 | cons x a ih=>simp only [List.cons_append,sI,ih]; omega
theorem AJ {l:List Int}(h: ∀x ∈ l,0≤x) :0≤sI l:=by
 induction l with
 | nil=>simp [sI]
 | cons x l ih=>
  have:=h x ZO;have:=ih (fun y hy=>h y (by simp [hy]));simp only [sI]; omega
theorem ai {p:List Pm}{j:Nat}{x:Pm}(h:p[j]?=some x) :dY (p.take (j+1))=dY (p.take j)++[x.am]:=by
 unfold dY;rw [YN,h];simp
theorem WS {P:List (List Pm)}{k:Nat}{p:List Pm}(h:P[k]?=some p) :BX (P.take (k+1))=BX (P.take k)++dY p:=by
 unfold BX;rw [YN,h,List.flatMap_append];simp
def Cf (w:World)(l:List Rc)(P:List (List Pm)) :Prop:=P.length=l.length∧ ∀(i:Nat) (v:Rc) (p:List Pm),l[i]?=some v→P[i]?=some p→(∃la,Mv w (fun _=>False) v la p)∧p.length≤1000
theorem ea {w:World}{l:List Rc}{P:List (List Pm)}(h:Cf w l P) : ∀x ∈ BX P,0≤x∧x≤18446744073709551615:=by
 intro x hx;obtain ⟨p,hp,hx⟩:=List.mem_flatMap.1 hx;obtain ⟨q,hq,rfl⟩:=List.mem_map.1 hx;obtain ⟨i,hi⟩:=List.mem_iff_getElem?.1 hp;have EB:i < l.length:=by rw [←h.1]; exact (List.getElem?_eq_some_iff.1 hi).1
 obtain ⟨⟨la,hr⟩,_⟩:=h.2 i _ p (Zf EB) hi;exact gU (hr.fp q hq).2
theorem ZcP {w:World}{l:List Rc}{P:List (List Pm)}(h:Cf w l P){k:Nat}{p:List Pm}(hp:P[k]?=some p)(j:Nat) :sI (BX (P.take k)++dY (p.take j))≤sI (BX P):=by
 have nn:=ea h;have e:BX P=BX (P.take (k+1))++BX (P.drop (k+1)):=by unfold BX; rw [←List.flatMap_append,XF]
 have e2:dY p=dY (p.take j)++dY (p.drop j):=by unfold dY; rw [←List.map_append,XF]
 rw [e,WS hp,e2] at nn ⊢;have n1:=AJ (l:=BX (P.drop (k+1))) (fun x hx=>(nn x (by simp [hx])).1);have n2:=AJ (l:=dY (p.drop j)) (fun x hx=>(nn x (by simp [hx])).1);simp only [OM];omega
def jB (P:List (List Pm)) :Int:=if sI (BX P)≤18446744073709551615 then sI (BX P) else 0
def C9 (P:List (List Pm)) :Bool:=decide (sI (BX P)≤18446744073709551615)
theorem cB {P:List (List Pm)}(h:sI (BX P)≤18446744073709551615) :jB P=sI (BX P)∧C9 P=true:=⟨if_pos h,decide_eq_true h⟩
theorem xh {P:List (List Pm)}(h: ¬sI (BX P)≤18446744073709551615) :jB P=0∧C9 P=false:=⟨if_neg h,decide_eq_false h⟩
theorem dV (b:Nat)(t y:Int)(w:World)(h:Zy w b 22 #[.int .u64 t,.int .u64 y])(ht:0≤t∧t≤18446744073709551615)(hy:0≤y∧y≤18446744073709551615) :
  Calls Tryz.prog 23 #[.slice (some ⟨b,0,none⟩) 2 2] w fun e w'=>e= .returned (.tuple #[.int .u64 (if t+y≤18446744073709551615 then t+y else 0),.bool (decide (t+y≤18446744073709551615))])∧w=w':=by
 have h1:=Fk b 0 2 2 [t,y] w Zp (fun i hi=>by
  rw [Nat.zero_add,h.cell i];obtain rfl | rfl:i=0∨i=1:=by omega
  ·rfl
  ·rfl) (fun i=>by
  match i with
  | 0=>exact ht
  | 1=>exact hy
  | i+2=>exact ⟨by simp,by simp⟩)
 have e:XT [t,y] 2=t+y:=by simp [XT]
 unfold EG G9 at h1;rw [e] at h1;exact h1
theorem ry (a:Option Addr)(n c:Nat)(l:List Rc)(P:List (List Pm))(w:World)(hl:J6 Rc.row 9 w (fun _=>False) a l)(hn:l.length=n)(hP:Cf w l P)(hb:n≤1000) :
  Calls Tryz.prog 21 #[.slice a n c] w fun e w'=>e= .returned (.tuple #[.int .u64 (jB P),.bool (C9 P)])∧Zt w.heap.size w w':=by
 have HL:=Za hl;have HN:=Za hn;have HP:=Za hP;clear hl hn hP;go_enter Tryz.func21,Tryz.ntmps21;go_wp2;go_loopw [4,5,12] (fun s o i wr=> ∃(k:Nat) (t:Int),k≤n∧i= .int .i64 k∧s= .int .u64 t∧o= .bool true∧Hid (t=sI (BX (P.take k))∧0≤t∧t≤18446744073709551615)∧Hid (Zt w.heap.size w wr)) (fun _ _ i _=>n -(intOf i).toNat)
 case atStart=>exact ⟨0,0,by omega,rfl,rfl,rfl,Za ⟨rfl,by omega,by omega⟩,Za (Below.refl _ _)⟩
 case round=>
  obtain ⟨k,t,hk,rfl,rfl,rfl,HT,B0⟩:=hrel
  by_cases XJ:k < n
  ·obtain ⟨v,hv⟩ : ∃v,l[k]?=some v:=⟨_,Zf Rr⟩;obtain ⟨p,hp⟩ : ∃p,P[k]?=some p:=⟨_,Zf (by rw [HP.out.1,HN.out]; exact XJ)⟩;obtain ⟨⟨la,hr⟩,zO⟩:=HP.out.2 k v p hv hp;obtain ⟨b,off,rfl,_,Mf,Mn⟩:=HL.out.at hv;have RG:=Za (Bf Mn (B0.out.block b Mf));have HR:=Za hr;have dN:=Za hp;obtain ⟨pa,hpa⟩ : ∃pa,v.pa=pa:=⟨_,rfl⟩;obtain ⟨pn,Nv⟩ : ∃pn,v.pn=pn:=⟨_,rfl⟩;obtain ⟨pc,hpc⟩ : ∃pc,v.pc=pc:=⟨_,rfl⟩;have HV:Hid (v.pa=pa∧v.pn=pn∧v.pc=pc):=Za ⟨hpa,Nv,hpc⟩;have HLP:Hid (J6 Pm.row 3 w (fun _=>False) pa p∧p.length=pn):=Za ⟨by rw [←hpa]; exact hr.pay,by rw [←Nv]; exact hr.pn⟩;have hpnb:pn≤1000:=by rw [←HLP.out.2]; exact zO
   clear Mn hr hv hp hpa Nv hpc zO Mf;go_upto_region 5 with (first | (refine TP rfl 42 _ rfl b (off+k*9) rfl v _ RG.out Tryz.underlying42 rfl YS ?_) | (refine wpList_store_row rfl _ _ _ rfl wr.heap.size (Zz v) rfl rfl 42 _ (heap_alloc_new wr _) YS rfl (YC _) ?_; rw [Zu]));have c7:(wr.alloc (.cells (Zz v) 42)).cell? ⟨wr.heap.size,7,none⟩=some (.slice pa pn pc):=by rw [←HV.out.1,←HV.out.2.1,←HV.out.2.2]; exact (Zy.new wr _ _).cell 7
   have B1:Hid (Zt w.heap.size w (wr.alloc (.cells (Zz v) 42))):=Za (B0.out.alloc B0.out.size _);clear RG B0;generalize wr.alloc (.cells (Zz v) 42)=w1 at*;generalize wr.heap.size=rb at*;go_wp2_with (fail);clear c7;go_loopw [4,5,19] (fun s o i wr=> ∃(j:Nat) (u:Int),j≤pn∧i= .int .i64 j∧s= .int .u64 u∧o= .bool true∧Hid (u=sI (BX (P.take k)++dY (p.take j))∧0≤u∧u≤18446744073709551615)∧Hid (Zt w.heap.size w wr)) (fun _ _ i _=>pn -(intOf i).toNat)
   case atStart=>exact ⟨0,t,by omega,rfl,rfl,rfl,Za (by simpa [dY] using HT.out),B1⟩
   case round=>
    clear B1;obtain ⟨j,u,hj,rfl,rfl,rfl,HU,B2⟩:=hrel
    by_cases Df:j < pn
    ·obtain ⟨x,hx⟩ : ∃x,p[j]?=some x:=⟨_,Zf (by rw [HLP.out.2]; exact Df)⟩;obtain ⟨pb,po,rfl,_,Mf,Mn⟩:=HLP.out.1.at hx;have RP:=Za (Bf Mn (B2.out.block pb Mf));have hxa:=gU (HR.out.fp x (List.mem_of_getElem? hx)).2;have HX:=Za hx;have HXA:=Za hxa;clear Mn hx Mf hxa;go_upto_region 8 with (first | (refine TO rfl 61 _ rfl pb (po+j*3) rfl x _ RP.out Tryz.underlying61 rfl Hy ?_) | (refine wpList_store_row rfl _ _ _ rfl wr.heap.size (XP x) rfl rfl 61 _ (heap_alloc_new wr _) Hy rfl (O8 _) ?_; rw [Zu]));have c1:(wr.alloc (.cells (XP x) 61)).cell? ⟨wr.heap.size,1,none⟩=some (.int .u64 x.am):=(Zy.new wr _ _).cell 1;have B3:Hid (Zt w.heap.size w (wr.alloc (.cells (XP x) 61))):=Za (B2.out.alloc B2.out.size _);clear RP B2;generalize wr.alloc (.cells (XP x) 61)=w2 at*;generalize wr.heap.size=xb at*;go_wp2_with (fail);refine (dV _ u x.am _ (Zy.new _ _ _) HU.out.2 HXA.out).mono ?_
     by_cases hs:u+x.am≤18446744073709551615
     ·rw [if_pos hs,decide_eq_true hs];have HU2:Hid (u+x.am=sI (BX (P.take k)++dY (p.take (j+1)))∧0≤u+x.am∧u+x.am≤18446744073709551615):=Za ⟨by rw [ai HX.out,HU.out.1]; simp only [OM,sI]; omega,by have:=HU.out.2; have:=HXA.out; omega,hs⟩;generalize u+x.am=u2 at*;rintro e w3 ⟨rfl,rfl⟩;have B4:Hid (Zt w.heap.size w (w2.alloc (.cells #[.int .u64 u,.int .u64 x.am] 22))):=Za (B3.out.alloc B3.out.size _);clear B3 c1 hs;go_wp2_with (fail);go_roundw
      case rel=>exact ⟨j+1,u2,by omega,by go_num,rfl,rfl,HU2,B4⟩
      case measure=>exact Uz
     ·rw [if_neg hs,decide_eq_false hs];have HNO:Hid (jB P=0∧C9 P=false):=Za (xh (fun hle=>hs (by
       have h1:=ZcP HP.out dN.out (j+1);rw [ai HX.out,←List.append_assoc,OM,←HU.out.1] at h1;simp only [sI] at h1;omega)))
      rintro e w3 ⟨rfl,rfl⟩;have B4:Hid (Zt w.heap.size w (w2.alloc (.cells #[.int .u64 u,.int .u64 x.am] 22))):=Za (B3.out.alloc B3.out.size _);clear B3 c1 hs;go_wp2_with (fail);go_ret2;exact ⟨by rw [HNO.out.1,HNO.out.2]; rfl,B4.out⟩
    ·obtain rfl:j=pn:=by omega
     have kA:Hid (u=sI (BX (P.take (k+1)))∧0≤u∧u≤18446744073709551615):=Za ⟨by
      rw [WS dN.out,HU.out.1,Yn (l:=p) (by rw [HLP.out.2]; exact Nat.le_refl _)],HU.out.2⟩
     clear Df;have Df: ¬j < j:=by omega
     go_wp2_with (fail);go_roundw
     case rel=>exact ⟨k+1,u,by omega,by go_num,rfl,rfl,kA,B2⟩
     case measure=>exact Uz
  ·obtain rfl:k=n:=by omega
   have HE:Hid (t=sI (BX P)∧t≤18446744073709551615):=Za ⟨by rw [HT.out.1,Yn (by rw [HP.out.1,HN.out]; exact Nat.le_refl _)],HT.out.2.2⟩;have HY:=Za (cB (P:=P) (by rw [←HE.out.1]; exact HE.out.2));clear XJ;have XJ: ¬k < k:=by omega
   go_wp2_with (fail);go_ret2;exact ⟨by rw [HY.out.1,HY.out.2,←HE.out.1]; rfl,B0.out⟩
end
end Go.Proofs.YtianiiijaopdpaaGreat
