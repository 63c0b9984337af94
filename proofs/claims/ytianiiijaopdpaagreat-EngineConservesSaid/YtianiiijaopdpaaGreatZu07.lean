/- Part 7 of 58: Wheel. -/
import Derived.Test.YtianiiijaopdpaaGreatZu00
import Derived.Test.YtianiiijaopdpaaGreatZu03
import Derived.Laws.CopyOwn
namespace Go.Proofs.YtianiiijaopdpaaGreat
set_option linter.unusedVariables false
set_option linter.unusedSimpArgs false
set_option maxRecDepth 100000
set_option maxHeartbeats 8000000
open _root_.List renaming getElem?_append_left → YD, getElem?_append_right → YV, getElem?_drop → Qb, getElem?_eq_none → Qd, getElem?_take_of_lt → QE
open _root_.Nat renaming lt_or_ge → YA, mod_eq_of_lt → Ks
open _root_.Go renaming splice → Vc
theorem tr {G:Prop} (h:G:=by
  rw [List.getElem?_eq_none h1] at hv
  cases hv) :G:=h
section
def Wheel {α:Type}(C:List α)(f:Nat)(F:List α) :Prop:=F.length≤C.length∧f < C.length∧ ∀t v,F[t]?=some v→C[(f+t)%C.length]?=some v
theorem yy {N s:Nat}(h:s < 2*N) :(s < N∧s%N=s)∨(N≤s∧s%N=s - N):=by
 rcases YA s N with h1 | h1
 ·exact .inl ⟨h1,Ks h1⟩
 ·refine .inr ⟨h1,?_⟩;rw [Nat.mod_eq_sub_mod h1];exact Ks Zp
theorem Bx {α:Type}(L:List α)(off:Nat)(cs:List α)(h:off+cs.length≤L.length)(p:Nat) :
  (Vc L off cs)[p]?=if p < off then L[p]? else if p < off+cs.length then cs[p - off]? else L[p]?:=by
 unfold Vc;have hl:(L.take off).length=off:=by simp; omega
 by_cases h1:p < off
 ·rw [if_pos h1,YD Zp,QE h1]
 ·rw [if_neg h1,YV Zp,hl]
  by_cases h2:p < off+cs.length
  ·rw [if_pos h2,YD Zp]
  ·rw [if_neg h2,YV Zp,Qb]
   congr 1
   omega
section
variable {α:Type} {C F:List α} {f:Nat}
theorem Wheel.read1 (h:Wheel C f F){u:Nat}(hu:f+u≤C.length)(j:Nat)(v:α)(hv:(F.take u)[j]?=some v) :C[f+j]?=some v:=by
 have hj:j < u:=by
  rcases YA j u with h1 | h1
  ·exact h1
  ·rw [Qd (by simp; omega)] at hv; cases hv
 rw [QE hj] at hv;have:=h.2.2 j v hv;rwa [Ks Zp] at this
theorem Wheel.read2 (h:Wheel C f F)(j:Nat)(v:α)(hv:(F.drop (C.length - f))[j]?=some v) :C[j]?=some v:=by
 rw [Qb] at hv;have hj:C.length - f+j < F.length:=by
  rcases YA (C.length - f+j) F.length with h1 | h1
  ·exact h1
  ·exact tr
 obtain ⟨h1,h2,h3⟩:=h;have:=h3 _ v hv;rw [show f+(C.length - f+j)=C.length+j by omega,Nat.add_mod_left,Ks Zp] at this;exact this
theorem Wheel.of_prefix {Z:List α}(h:0 < (F++Z).length) :Wheel (F++Z) 0 F:=by
 refine ⟨by simp,h,fun t v hv=>?_⟩;have ht:t < F.length:=by
  rcases YA t F.length with h1 | h1
  ·exact h1
  ·exact tr
 rw [Nat.zero_add,Ks (by simp; omega),YD ht];exact hv
theorem Wheel.push (h:Wheel C f F){cs:List α}(hc:F.length+cs.length≤C.length){s u:Nat}(hs:s=(f+F.length)%C.length)(hu:u=min cs.length (C.length - s)) :
  Wheel (Vc (Vc C s (cs.take u)) 0 (cs.drop u)) f (F++cs):=by
 obtain ⟨h1,h2,h3⟩:=h;have hsN:s < C.length:=by rw [hs]; exact Nat.mod_lt _ Zp
 have l1:(cs.take u).length=u:=by simp; omega
 have l2:(cs.drop u).length=cs.length - u:=by simp
 have e1:(Vc C s (cs.take u)).length=C.length:=length_splice _ _ _ Zp;have e2:(Vc (Vc C s (cs.take u)) 0 (cs.drop u)).length=C.length:=by rw [length_splice _ _ _ Zp,e1]
 refine ⟨by rw [e2]; simpa using hc,by omega,fun t v hv=>?_⟩;rw [e2,Bx _ _ _ Zp,Bx _ _ _ Zp,l1,l2];have hws:=yy (N:=C.length) (s:=f+F.length) Zp;rw [←hs] at hws;have ht:t < F.length+cs.length:=by
  rcases YA t (F.length+cs.length) with h4 | h4
  ·exact h4
  ·rw [Qd (by simpa using h4)] at hv; cases hv
 have hwt:=yy (N:=C.length) (s:=f+t) Zp;generalize hp:(f+t)%C.length=p at*
 by_cases htF:t < F.length
 ·rw [YD htF] at hv;have:=h3 t v hv;rw [hp] at this;rw [if_neg Zp,if_neg Zp]
  by_cases h5:p < s
  ·rw [if_pos h5]; exact this
  ·rw [if_neg h5,if_neg Zp]; exact this
 ·rw [YV Zp] at hv;rw [if_neg Zp]
  by_cases hr:t - F.length < u
  ·rw [if_neg Zp,if_neg Zp,if_pos Zp,QE Zp,show p - s=t - F.length by omega];exact hv
  ·rw [if_pos Zp,Qb,show u+(p - 0)=t - F.length by omega];exact hv
theorem Wheel.pop (h:Wheel C f F){k:Nat}(hk:k≤F.length){C':List α}(hl:C'.length=C.length)(hC: ∀p,p < f∨f+k≤p→C'[p]?=C[p]?) :Wheel C' ((f+k)%C.length) (F.drop k):=by
 obtain ⟨h1,h2,h3⟩:=h;refine ⟨by rw [hl,List.length_drop]; omega,by rw [hl]; exact Nat.mod_lt _ Zp,fun t v hv=>?_⟩;rw [Qb] at hv;have ht:k+t < F.length:=by
  rcases YA (k+t) F.length with h4 | h4
  ·exact h4
  ·rw [Qd h4] at hv; cases hv
 have:=h3 _ v hv;rw [hl,Nat.mod_add_mod,Nat.add_assoc];have hwt:=yy (N:=C.length) (s:=f+(k+t)) Zp;generalize (f+(k+t))%C.length=p at*;rw [hC p Zp];exact this
theorem Wheel.get (h:Wheel C f F){t:Nat}{v:α}(hv:F[t]?=some v) :C[(f+t)%C.length]?=some v:=h.2.2 t v hv
end
end
end Go.Proofs.YtianiiijaopdpaaGreat
