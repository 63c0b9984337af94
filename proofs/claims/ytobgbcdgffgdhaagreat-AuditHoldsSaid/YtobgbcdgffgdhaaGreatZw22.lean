/- Part 22 of 31: L18Bnd. -/
import Derived.Test.YtobgbcdgffgdhaaGreatZw00
import Derived.Test.YtobgbcdgffgdhaaGreatZw13
import Derived.Test.YtobgbcdgffgdhaaGreatZw15
namespace Go.Proofs.YtobgbcdgffgdhaaGreat
set_option linter.unusedVariables false
set_option linter.unusedSimpArgs false
set_option maxRecDepth 100000
set_option maxHeartbeats 8000000
open Go.Proofs.Tryz
theorem ZbS {G:Prop} (h:G:=by
  rintro e w' ⟨rfl,rfl⟩;go_wp2_with (fail);go_ret2;exact ⟨by rw [HR.o]; rfl,HB.o⟩) :G:=h
theorem ZhM {G:Prop} (h:G:=by
  generalize a+x+c 9=s at*;go_enter func301,ntmps301;go_wp2_with (fail);refine HA.o.mono ?_;rintro e w' ⟨rfl,rfl⟩;go_wp2_with (fail);refine (HE.o _).mono ?_;exact ZbS) :G:=h
section
open Go Go.RowKit
def GX (a x:Int)(c:Nat->Int) :Option Int:=if a+x+c 9<=18446744073709551615/\VG (a+x+c 9) (c 7)<=1099511627776 then some (max 1 (VG (a+x+c 9) (c 7))) else none
theorem pJ {a x:Int}{c:Nat->Int}(h1:a+x+c 9<=18446744073709551615)(h2:VG (a+x+c 9) (c 7)<=1099511627776) :GX a x c=some (max 1 (VG (a+x+c 9) (c 7))):=if_pos ⟨h1,h2⟩
theorem wk {a x:Int}{c:Nat->Int}(h: ¬a+x+c 9<=18446744073709551615) :GX a x c=none:=if_neg (fun e=>h e.1)
theorem wj {a x:Int}{c:Nat->Int}(h: ¬VG (a+x+c 9) (c 7)<=1099511627776) :GX a x c=none:=if_neg (fun e=>h e.2)
theorem eH {a x k:Int}{c:Nat->Int}(h:GX a x c=some k) :1<=k/\k<=1099511627776:=by
 unfold GX at h
 split at h
 ·injection h with h; omega
 ·cases h
theorem dH (w:World)(k:IntKind)(x y z:Int)(t:TypeId) : ∀i,i < 3->(w.alloc (.cells #[.int k x,.int k y,.int k z] t)).cell? ⟨w.heap.size,0+i,none⟩=some (.int k (([x,y,z] :List Int).getD i 0)):=fun i hi=>by
 rw [Nat.zero_add,(Zu.new w t _).cell];have:i=0\/i=1\/i=2:=Zf
 rcases this with rfl | rfl | rfl <;> rfl
theorem iL {x y z:Int}(hx:BH x)(hy:BH y)(hz:BH z) : ∀i,0<=([x,y,z] :List Int).getD i 0/\([x,y,z] :List Int).getD i 0<=18446744073709551615:=fun i=>by
 rcases i with _ | _ | _ | i
 ·exact hx
 ·exact hy
 ·exact hz
 ·simp
theorem Pg (x y z:Int) :XW [x,y,z] 3=x+y+z:=by simp [XW]
section
variable {a x:Int} {c:Nat->Int}
theorem o7 (hg:Good c)(ha:BH a)(hx:BH x)(w:World) :
  YV 101 #[.slice (some ⟨w.heap.size,0,none⟩) 3 3] (w.alloc (.cells #[.int .u64 a,.int .u64 x,.int .u64 (c 9)] 23)) (.tuple #[.int .u64 (BO [a,x,c 9] 3),.bool (VU [a,x,c 9] 3)]):=
 DP _ _ _ _ _ _ Zf (dH w .u64 a x (c 9) 23) (iL ha hx ⟨hg.fcp0,by have:=hg.fcp1; omega⟩)
theorem av (h:a+x+c 9<=18446744073709551615) :BO [a,x,c 9] 3=a+x+c 9/\VU [a,x,c 9] 3=true:=by
 have:=Nk (z:= [a,x,c 9]) (n:=3) (by rw [Pg]; exact h);rw [Pg] at this;exact ⟨this.2,this.1⟩
theorem jt (h: ¬a+x+c 9<=18446744073709551615) :BO [a,x,c 9] 3=0/\VU [a,x,c 9] 3=false:=by
 have:=RH (z:= [a,x,c 9]) (n:=3) (by rw [Pg]; exact h);exact ⟨this.2,this.1⟩
theorem eK (w:World)(o:Obj)(j:Nat) :((w.alloc (.cells (Zi c) 30)).alloc o).cell? ⟨w.heap.size,j,none⟩=(Zi c)[j]?:=((Zu.new w _ _).alloc o).cell j
theorem Nq (hg:Good c)(ha:BH a)(hx:BH x)(w:World) :
  Z3 301 #[.int .u64 a,.int .u64 x,.agg (Zi c)] w (Kv (GX a x c)):=by
 have HA:=Za (o7 hg ha hx (w.alloc (.cells (Zi c) 30)));rw [show (w.alloc (.cells (Zi c) 30)).heap.size=w.heap.size+1 by simp] at HA;have c9:(w.alloc (.cells (Zi c) 30)).cell? ⟨w.heap.size,9,none⟩=some (.int .u64 (c 9)):=(Zu.new w _ _).cell 9;have c7:((w.alloc (.cells (Zi c) 30)).alloc (.cells #[.int .u64 a,.int .u64 x,.int .u64 (c 9)] 23)).cell? ⟨w.heap.size,7,none⟩=some (.int .u64 (c 7)):=eK _ _ 7;have HB:Zl (Below w.heap.size w ((w.alloc (.cells (Zi c) 30)).alloc (.cells #[.int .u64 a,.int .u64 x,.int .u64 (c 9)] 23))):=Za (((Below.refl _ _).alloc (Nat.le_refl _) _).alloc ZE _);have s0:0<=a+x+c 9:=by have:=hg.fcp0; have:=ha.1; have:=hx.1; omega
 by_cases h1:a+x+c 9<=18446744073709551615
 ·rw [(av h1).1,(av h1).2] at HA;have m0:0<=c 7/\c 7<=18446744073709551615:=⟨by have:=hg.chu0; omega,by have:=hg.chu1; omega⟩;have hd: ¬c 7=0:=by have:=hg.chu0; omega
  have HE:=Za (fun w=>fe (a+x+c 9) (c 7) w s0 h1 m0.1 m0.2)
  by_cases h2:VG (a+x+c 9) (c 7)<=1099511627776
  ·have hR:=pJ h1 h2;rw [(e9 _ _ hd h2).1,(e9 _ _ hd h2).2] at HE;obtain ⟨r,hr⟩:=ZT (max 1 (VG (a+x+c 9) (c 7)));rw [hr] at hR;have HR:=Za hR;clear hg ha hx s0 h1 m0 hd h2 hR;generalize VG (a+x+c 9) (c 7)=q at*;exact ZhM
  ·have HR:=Za (wj h2);rw [(CF _ _ h2).1,(CF _ _ h2).2] at HE;clear hg ha hx s0 h1 m0 hd h2;exact ZhM
 ·rw [(jt h1).1,(jt h1).2] at HA;have HR:=Za (wk h1);clear hg ha hx s0 h1;go_enter func301,ntmps301;go_wp2_with (fail);refine HA.o.mono ?_;exact ZbS
end
end
end Go.Proofs.YtobgbcdgffgdhaaGreat
