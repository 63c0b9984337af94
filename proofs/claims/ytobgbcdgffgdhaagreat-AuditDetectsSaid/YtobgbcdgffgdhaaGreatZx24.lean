/- Part 24 of 34: L18Bnd. -/
import Derived.Test.YtobgbcdgffgdhaaGreatZx00
import Derived.Test.YtobgbcdgffgdhaaGreatZx14
import Derived.Test.YtobgbcdgffgdhaaGreatZx16
namespace Go.Proofs.YtobgbcdgffgdhaaGreat
set_option linter.unusedVariables false
set_option linter.unusedSimpArgs false
set_option maxRecDepth 100000
set_option maxHeartbeats 8000000
open Go.Proofs.Tryz
theorem Zgr {G:Prop} (h:G:=by
  rintro e w' ⟨rfl,rfl⟩;go_wp2_with (fail);go_ret2;exact ⟨by rw [HR.o]; rfl,HB.o⟩) :G:=h
theorem Zmz {G:Prop} (h:G:=by
  generalize a+x+c 9=s at*;go_enter func301,ntmps301;go_wp2_with (fail);refine HA.o.mono ?_;rintro e w' ⟨rfl,rfl⟩;go_wp2_with (fail);refine (HE.o _).mono ?_;exact Zgr) :G:=h
section
open Go Go.RowKit
def Dc (a x:Int)(c:Nat->Int) :Option Int:=if a+x+c 9<=18446744073709551615/\Ul (a+x+c 9) (c 7)<=1099511627776 then some (max 1 (Ul (a+x+c 9) (c 7))) else none
theorem uw {a x:Int}{c:Nat->Int}(h1:a+x+c 9<=18446744073709551615)(h2:Ul (a+x+c 9) (c 7)<=1099511627776) :Dc a x c=some (max 1 (Ul (a+x+c 9) (c 7))):=if_pos ⟨h1,h2⟩
theorem Zbs {a x:Int}{c:Nat->Int}(h: ¬a+x+c 9<=18446744073709551615) :Dc a x c=none:=if_neg (fun e=>h e.1)
theorem Zbr {a x:Int}{c:Nat->Int}(h: ¬Ul (a+x+c 9) (c 7)<=1099511627776) :Dc a x c=none:=if_neg (fun e=>h e.2)
theorem jL {a x k:Int}{c:Nat->Int}(h:Dc a x c=some k) :1<=k/\k<=1099511627776:=by
 unfold Dc at h
 split at h
 ·injection h with h; omega
 ·cases h
theorem iY (w:World)(k:IntKind)(x y z:Int)(t:TypeId) : ∀i,i < 3->(w.alloc (.cells #[.int k x,.int k y,.int k z] t)).cell? ⟨w.heap.size,0+i,none⟩=some (.int k (([x,y,z] :List Int).getD i 0)):=fun i hi=>by
 rw [Nat.zero_add,(Zu.new w t _).cell];have:i=0\/i=1\/i=2:=Zf
 rcases this with rfl | rfl | rfl <;> rfl
theorem mA {x y z:Int}(hx:DU x)(hy:DU y)(hz:DU z) : ∀i,0<=([x,y,z] :List Int).getD i 0/\([x,y,z] :List Int).getD i 0<=18446744073709551615:=fun i=>by
 rcases i with _ | _ | _ | i
 ·exact hx
 ·exact hy
 ·exact hz
 ·simp
theorem R7 (x y z:Int) :XR [x,y,z] 3=x+y+z:=by simp [XR]
section
variable {a x:Int} {c:Nat->Int}
theorem tO (hg:Good c)(ha:DU a)(hx:DU x)(w:World) :
  Y6 101 #[.slice (some ⟨w.heap.size,0,none⟩) 3 3] (w.alloc (.cells #[.int .u64 a,.int .u64 x,.int .u64 (c 9)] 23)) (.tuple #[.int .u64 (BB [a,x,c 9] 3),.bool (KS [a,x,c 9] 3)]):=
 EV _ _ _ _ _ _ Zf (iY w .u64 a x (c 9) 23) (mA ha hx ⟨hg.fcp0,by have:=hg.fcp1; omega⟩)
theorem eo (h:a+x+c 9<=18446744073709551615) :BB [a,x,c 9] 3=a+x+c 9/\KS [a,x,c 9] 3=true:=by
 have:=Nj (z:= [a,x,c 9]) (n:=3) (by rw [R7]; exact h);rw [R7] at this;exact ⟨this.2,this.1⟩
theorem nm (h: ¬a+x+c 9<=18446744073709551615) :BB [a,x,c 9] 3=0/\KS [a,x,c 9] 3=false:=by
 have:=OZ (z:= [a,x,c 9]) (n:=3) (by rw [R7]; exact h);exact ⟨this.2,this.1⟩
theorem jO (w:World)(o:Obj)(j:Nat) :((w.alloc (.cells (Zi c) 30)).alloc o).cell? ⟨w.heap.size,j,none⟩=(Zi c)[j]?:=((Zu.new w _ _).alloc o).cell j
theorem Pb (hg:Good c)(ha:DU a)(hx:DU x)(w:World) :
  Z3 301 #[.int .u64 a,.int .u64 x,.agg (Zi c)] w (KQ (Dc a x c)):=by
 have HA:=Za (tO hg ha hx (w.alloc (.cells (Zi c) 30)));rw [show (w.alloc (.cells (Zi c) 30)).heap.size=w.heap.size+1 by simp] at HA;have c9:(w.alloc (.cells (Zi c) 30)).cell? ⟨w.heap.size,9,none⟩=some (.int .u64 (c 9)):=(Zu.new w _ _).cell 9;have c7:((w.alloc (.cells (Zi c) 30)).alloc (.cells #[.int .u64 a,.int .u64 x,.int .u64 (c 9)] 23)).cell? ⟨w.heap.size,7,none⟩=some (.int .u64 (c 7)):=jO _ _ 7;have HB:Zj (Below w.heap.size w ((w.alloc (.cells (Zi c) 30)).alloc (.cells #[.int .u64 a,.int .u64 x,.int .u64 (c 9)] 23))):=Za (((Below.refl _ _).alloc (Nat.le_refl _) _).alloc ZE _);have s0:0<=a+x+c 9:=by have:=hg.fcp0; have:=ha.1; have:=hx.1; omega
 by_cases h1:a+x+c 9<=18446744073709551615
 ·rw [(eo h1).1,(eo h1).2] at HA;have m0:0<=c 7/\c 7<=18446744073709551615:=⟨by have:=hg.chu0; omega,by have:=hg.chu1; omega⟩;have hd: ¬c 7=0:=by have:=hg.chu0; omega
  have HE:=Za (fun w=>j5 (a+x+c 9) (c 7) w s0 h1 m0.1 m0.2)
  by_cases h2:Ul (a+x+c 9) (c 7)<=1099511627776
  ·have hR:=uw h1 h2;rw [(j4 _ _ hd h2).1,(j4 _ _ hd h2).2] at HE;obtain ⟨r,hr⟩:=ZR (max 1 (Ul (a+x+c 9) (c 7)));rw [hr] at hR;have HR:=Za hR;clear hg ha hx s0 h1 m0 hd h2 hR;generalize Ul (a+x+c 9) (c 7)=q at*;exact Zmz
  ·have HR:=Za (Zbr h2);rw [(bI _ _ h2).1,(bI _ _ h2).2] at HE;clear hg ha hx s0 h1 m0 hd h2;exact Zmz
 ·rw [(nm h1).1,(nm h1).2] at HA;have HR:=Za (Zbs h1);clear hg ha hx s0 h1;go_enter func301,ntmps301;go_wp2_with (fail);refine HA.o.mono ?_;exact Zgr
end
end
end Go.Proofs.YtobgbcdgffgdhaaGreat
