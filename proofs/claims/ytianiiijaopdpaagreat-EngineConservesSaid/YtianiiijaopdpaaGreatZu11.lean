/- Part 11 of 58: Append. -/
import Derived.Test.YtianiiijaopdpaaGreatZu00
import Derived.Test.YtianiiijaopdpaaGreatZu08
import Derived.Deep.AppendLies
namespace Go.Proofs.YtianiiijaopdpaaGreat
set_option linter.unusedVariables false
set_option linter.unusedSimpArgs false
set_option maxRecDepth 100000
set_option maxHeartbeats 8000000
open _root_.Go.Builtin renaming firstCells → Gz
open _root_.List renaming eq_nil_of_length_eq_zero → Z3
open _root_.Nat renaming eq_zero_or_pos → QV
open _root_.Go renaming TypeId → ZT, TypeInfo → Vk, Value → Zo
theorem RD {G:Prop}(h:G:=by simpa using hl) :G:=h
section
open Go Go.RowKit
section
variable {P:Program} (w:World)
theorem MO (base:Nat)(t ty e:ZT)(i:Vk)(size:Nat)(ht:P.underlying t=some (.slice e))(hi:P.info? e=some i)
  (v:Zo) (n:Nat) (xs:List Zo) (ME:w.ownsRow base e size v n xs) (c:Nat) :(Builtin.append_ #[t,t] ty #[v,.slice none 0 c]).run P w= .ok v w:=by
 rcases ME.2 with ⟨rfl,rfl⟩ | ⟨g,cap,cur,rfl,_,_,hnc,_⟩
 ·simp [Builtin.append_,run_underlying ht,sizeOf,typeInfo,hi,Builtin.lenOf,Gz]
 ·simp [Builtin.append_,run_underlying ht,sizeOf,typeInfo,hi,Builtin.lenOf,Gz,hnc,storeCells]
theorem Tx (base:Nat)(t ty e:ZT)(i:Vk)(z:Zo)(size bytes:Nat)(ht:P.underlying t=some (.slice e))(hi:P.info? e=some i)(hz:i.zero=some z)
  (Hw:i.size=size) (Hu:i.bytes=bytes) (qC:z.cells.size=size) (Du:0 < size)
  (v:Zo) (n:Nat) (xs:List Zo) (ME:w.ownsRow base e size v n xs)
  (A:Option Addr) (m c:Nat) (news:List Zo) (hl:news.length=m*size) (hr:0 < m→ ∃ad,A=some ad∧ ∀j u,news[j]?=some u→w.cell? (ad.add j)=some u) (h1: ∀u ∈ news,u.oneCell'=true)
  (nK:n+m≤maxLen) (BL:(n+m)*bytes≤140737488355328) (bo:base≤w.heap.size) :
  ∃v' w',(Builtin.append_ #[t,t] ty #[v,.slice A m c]).run P w= .ok v' w'∧w'.ownsRow base e size v' (n+m) (xs++news)∧w.grownBy w' v.ownBlock∧
   (v'.ownBlock=v.ownBlock∨v'.ownBlock=some w.heap.size):=by
 rcases A with _ | ad
 ·have hm:m=0:=by
   rcases QV m with h0 | h0
   ·exact h0
   ·obtain ⟨ad,h,_⟩:=hr h0
    cases h
  subst hm;have hn:news=[]:=Z3 RD;subst hn;exact ⟨v,w,MO w base t ty e i size ht hi v n xs ME c,by simpa using ME,World.grownBy.refl w _,.inl rfl⟩
 ·have hcells: ∀j u,news[j]?=some u→w.cell? (ad.add j)=some u:=by
   intro j u hu
   rcases QV m with h0 | h0
   ·subst h0;have hn:news=[]:=Z3 RD;subst hn;simp at hu
   ·obtain ⟨ad',h,hc⟩:=hr h0;injection h with h;subst h;exact hc j u hu
  obtain ⟨v',w',Bd,h2,h3,_,h5⟩:=run_append_own_at (P:=P) w base t ty e i z size bytes ht hi hz Hw Hu qC Du v n xs ME ad m c news hl hcells h1 nK BL bo;exact ⟨v',w',Bd,h2,h3,h5⟩
theorem Ey {o:Oper}{a:Act}{K:Act→World→Prop}{Q:Exit→Act→World→Prop}(s x:Operand)(t:ZT)
  (ho:o.op= .call { callee:= .builtin .append,args:= #[s,x],argTypes:= #[t,t]})
  (base:Nat) (e:ZT) (i:Vk) (z:Zo) (size bytes:Nat) (ht:P.underlying t=some (.slice e)) (hi:P.info? e=some i) (hz:i.zero=some z)
  (Hw:i.size=size) (Hu:i.bytes=bytes) (qC:z.cells.size=size) (Du:0 < size)
  (v:Zo) (n:Nat) (xs:List Zo) (hs:a.eval s=v) (ME:w.ownsRow base e size v n xs)
  (A:Option Addr) (m c:Nat) (news:List Zo) (hx:a.eval x= .slice A m c) (hl:news.length=m*size) (hr:0 < m→ ∃ad,A=some ad∧ ∀j u,news[j]?=some u→w.cell? (ad.add j)=some u) (h1: ∀u ∈ news,u.oneCell'=true)
  (nK:n+m≤maxLen) (BL:(n+m)*bytes≤140737488355328) (bo:base≤w.heap.size)
  (h: ∀v' w',w'.ownsRow base e size v' (n+m) (xs++news)→w.grownBy w' v.ownBlock→(v'.ownBlock=v.ownBlock∨v'.ownBlock=some w.heap.size)→K (a.put o.dst v') w') :o.wp P a w K Q:=by
 obtain ⟨v',w',Bd,h2,h3,h4⟩:=Tx (P:=P) w base t o.type e i z size bytes ht hi hz Hw Hu qC Du v n xs ME A m c news hl hr h1 nK BL bo;unfold Oper.wp execOp;simp only [ho,resolve,invoke,builtin,Sem.run_bind,Sem.run_pure,Result.andThen_ok,List.map_toArray,List.map_cons,List.map_nil,hs,hx,Bd];exact h v' w' h2 h3 h4
theorem QL {ops:Array Oper}{rest:List Oper}{o:Oper}{a:Act}{Q:Exit→Act→World→Prop}(BU:o.guard=none)(s x:Operand)(t:ZT)
  (ho:o.op= .call { callee:= .builtin .append,args:= #[s,x],argTypes:= #[t,t]})
  (base:Nat) (e:ZT) (i:Vk) (z:Zo) (size bytes:Nat) (ht:P.underlying t=some (.slice e)) (hi:P.info? e=some i) (hz:i.zero=some z)
  (Hw:i.size=size) (Hu:i.bytes=bytes) (qC:z.cells.size=size) (Du:0 < size)
  (v:Zo) (n:Nat) (xs:List Zo) (hs:a.eval s=v) (ME:w.ownsRow base e size v n xs)
  (A:Option Addr) (m c:Nat) (news:List Zo) (hx:a.eval x= .slice A m c) (hl:news.length=m*size) (hr:0 < m→ ∃ad,A=some ad∧ ∀j u,news[j]?=some u→w.cell? (ad.add j)=some u) (h1: ∀u ∈ news,u.oneCell'=true)
  (nK:n+m≤maxLen) (BL:(n+m)*bytes≤140737488355328) (bo:base≤w.heap.size)
  (h: ∀v' w',w'.ownsRow base e size v' (n+m) (xs++news)→w.grownBy w' v.ownBlock→(v'.ownBlock=v.ownBlock∨v'.ownBlock=some w.heap.size)→wpList P ops Q rest (a.put o.dst v') w') :wpList P ops Q (o::rest) a w:=
 wpList_plain BU fun _ hK=>Ey w s x t ho base e i z size bytes ht hi hz Hw Hu qC Du v n xs hs ME A m c news hx hl hr h1 nK BL bo fun v' w' h2 h3 h4=>hK _ _ (h v' w' h2 h3 h4)
end
theorem fN {w:World}{base p:Nat}{e:ZT}{size:Nat}(h:Zy w p e #[])(hb:base≤p) :w.ownsRow base e size (.slice (some ⟨p,0,none⟩) 0 0) 0 []:=
 ⟨by simp,.inr ⟨p,0,#[],rfl,hb,h,by omega,by unfold maxLen; omega,by simp,by simp⟩⟩
end
end Go.Proofs.YtianiiijaopdpaaGreat
