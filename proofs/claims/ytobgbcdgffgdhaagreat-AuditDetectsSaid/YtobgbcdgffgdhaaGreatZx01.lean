/- Part 1 of 34: L15Math. -/
import Derived.Test.YtobgbcdgffgdhaaGreatZx00
namespace Go.Proofs.YtobgbcdgffgdhaaGreat
set_option linter.unusedVariables false
set_option linter.unusedSimpArgs false
set_option maxRecDepth 100000
set_option maxHeartbeats 8000000
open _root_.Nat renaming div_add_mod -> K8, div_lt_iff_lt_mul -> KN, mul_assoc -> GK, mul_comm -> Ks, mul_le_mul_right -> Qe
theorem Zd {G:Prop}(h:G:=by omega) :G:=h
theorem ZeN {G:Prop} (h:G:=by
  have e:q*(y1*4294967296+y0)=q*y1*4294967296+q*y0:=by rw [Nat.mul_add,Nat.mul_assoc]
  have:=d.eq;rw [e];omega) :G:=h
section
structure Dig (v u y1 y0 q r:Nat) :Prop where
 eq:q*y1+r=v
 le:(v*4294967296+u)/(y1*4294967296+y0)<=q
 lt:r < 4294967296
structure Ok (v u y1 y0:Nat) :Prop where
 lo:2147483648<=y1
 hi:y1 < 4294967296
 hy0:y0 < 4294967296
 hv:v < y1*4294967296+y0
 hu:u < 4294967296
theorem IL {v u y1 y0:Nat}(h:Ok v u y1 y0) :Dig v u y1 y0 (v/y1) (v - v/y1*y1):=by
 have h1:v/y1*y1+v%y1=v:=by rw [Ks]; exact K8 v y1
 have h2:v%y1 < y1:=Nat.mod_lt _ (by have:=h.lo; omega);have:=h.hi;refine ⟨by omega,?_,by omega⟩;have e:v/y1=(v*4294967296+u)/(y1*4294967296):=by
  rw [Ks y1,<-Nat.div_div_eq_div_mul]
  congr 1
  have:=h.hu;omega
 rw [e];exact Nat.div_le_div_left (Nat.le_add_right _ _) (by have:=h.lo; omega)
theorem oL {v u y1 y0:Nat}(h:Ok v u y1 y0) :(v*4294967296+u)/(y1*4294967296+y0)< 4294967296:=by
 have:=h.lo; have:=h.hv; have:=h.hu;rw [KN Zd];omega
theorem Cp {v u y1 y0 Q:Nat}(h:Ok v u y1 y0)(hQ:Q=(v*4294967296+u)/(y1*4294967296+y0)) :Q < 4294967296:=by
 subst hQ; exact oL h
theorem ZcY {v u y1 y0 q r:Nat}(h:Ok v u y1 y0)(d:Dig v u y1 y0 q r) :q<=4294967297:=by
 have:=h.lo; have:=h.hv; have:=d.eq; have:=h.hy0;refine Nat.le_of_not_lt fun hq=>?_
 have:4294967298*y1<=q*y1:=Qe _ hq;omega
theorem uH {v u y1 y0 q r:Nat}(h:Ok v u y1 y0)(d:Dig v u y1 y0 q r)
  (t:4294967296<=q\/4294967296*r+u < q*y0) :(v*4294967296+u)/(y1*4294967296+y0)< q:=by
 rcases t with t | t
 ·exact Nat.lt_of_lt_of_le (oL h) t
 ·rw [KN (by have:=h.lo; omega)];exact ZeN
theorem Es {v u y1 y0 q r:Nat}(h:Ok v u y1 y0)(d:Dig v u y1 y0 q r)
  (t:4294967296<=q\/4294967296*r+u < q*y0) :
  1<=q/\(q - 1)*y1+(r+y1)=v/\(v*4294967296+u)/(y1*4294967296+y0)<=q - 1:=by
 have t1:=uH h d t;obtain ⟨k,rfl⟩ : ∃k,q=k+1:=⟨q - 1,(Nat.succ_pred_eq_of_pos (Nat.lt_of_le_of_lt (Nat.zero_le _) t1)).symm⟩;have:=d.eq;rw [Nat.succ_mul] at this;exact ⟨Nat.succ_le_succ (Nat.zero_le _),by simp; omega,Nat.lt_succ_iff.1 t1⟩
theorem fg {v u y1 y0 q r:Nat}(h:Ok v u y1 y0)(d:Dig v u y1 y0 q r)
  (t:4294967296<=q\/4294967296*r+u < q*y0) (hr:r+y1 < 4294967296) :Dig v u y1 y0 (q - 1) (r+y1):=
 ⟨(Es h d t).2.1,(Es h d t).2.2,hr⟩
theorem gG {v u y1 y0 q:Nat}(hY:0 < y1*4294967296+y0)(h1:(v*4294967296+u)/(y1*4294967296+y0)<=q)
  (h2:q*(y1*4294967296+y0)<=v*4294967296+u) :q=(v*4294967296+u)/(y1*4294967296+y0):=
 Nat.le_antisymm ((Nat.le_div_iff_mul_le hY).2 h2) h1
theorem IK {v u y1 y0 q r:Nat}(h:Ok v u y1 y0)(d:Dig v u y1 y0 q r)
  (t:4294967296<=q\/4294967296*r+u < q*y0) (hr:4294967296<=r+y1) :
  q - 1=(v*4294967296+u)/(y1*4294967296+y0):=by
 obtain ⟨h1,h2,h3⟩:=Es h d t;have hl:=h.lo; have hv:=h.hv; have h0:=h.hy0;generalize jw:q - 1=k at*;have hk:k < 4294967296:=by
  refine Nat.lt_of_not_le fun hk=>?_
  have:4294967296*y1<=k*y1:=Qe _ hk;omega
 refine gG Zd h3 ?_;have e:k*(y1*4294967296+y0)=k*y1*4294967296+k*y0:=by rw [Nat.mul_add,GK]
 have e2:k*y0<=4294967295*4294967295:=Nat.mul_le_mul Zd Zd;rw [e];omega
theorem nA {v u y1 y0 q r:Nat}(h:Ok v u y1 y0)(d:Dig v u y1 y0 q r)
  (_t1:q < 4294967296) (t2:q*y0<=4294967296*r+u) :q=(v*4294967296+u)/(y1*4294967296+y0):=by
 have hl:=h.lo;refine gG Zd d.le ?_;exact ZeN
theorem l8 (v u Y q:Nat)(hY:0 < Y)(hY2:Y<=18446744073709551616)(h:q=(v*4294967296+u)/Y) :
  ((v*4294967296+u) - q*Y)=(v*4294967296+u)%Y/\q*Y<=v*4294967296+u/\(v*4294967296+u)%Y < Y:=by
 subst h;have h1:=K8 (v*4294967296+u) Y;have h2:=Nat.mod_lt (v*4294967296+u) hY;rw [Ks] at h1;omega
theorem mC (v u1 u0 Y:Nat)(hY:0 < Y) :
  (v*4294967296+u1)/Y*4294967296+((v*4294967296+u1)%Y*4294967296+u0)/Y=(v*18446744073709551616+u1*4294967296+u0)/Y:=by
 have h1:=K8 (v*4294967296+u1) Y;have e:v*18446744073709551616+u1*4294967296+u0=((v*4294967296+u1)%Y*4294967296+u0)+Y*((v*4294967296+u1)/Y*4294967296):=by
  rw [<-GK];generalize Y*((v*4294967296+u1)/Y)=A at*;omega
 rw [e,Nat.add_mul_div_left _ _ hY,Nat.add_comm]
theorem bF {v u1 u0 Y Q v2 Q2:Nat}(hY:0 < Y)(hQ:Q=(v*4294967296+u1)/Y)(SJ:v2=(v*4294967296+u1)%Y)(hQ2:Q2=(v2*4294967296+u0)/Y) :
  (v*18446744073709551616+u1*4294967296+u0)/Y=Q*4294967296+Q2:=by
 subst hQ2; subst SJ; subst hQ; exact (mC v u1 u0 Y hY).symm
theorem l7 {v u Y q r:Nat}(hY:0 < Y)(hY2:Y<=18446744073709551616)(hq:q=(v*4294967296+u)/Y)(hr:r=(v*4294967296+u)%Y) :
  ((v*4294967296+u) - q*Y)=r/\q*Y<=v*4294967296+u/\r < Y:=by
 subst hr; exact l8 v u Y q hY hY2 hq
end
end Go.Proofs.YtobgbcdgffgdhaaGreat
