/- Part 19 of 29: L18Bnd. -/
import Derived.Test.YtianiiijaopdpaaGreatZy00
import Derived.Test.YtianiiijaopdpaaGreatZy11
import Derived.Test.YtianiiijaopdpaaGreatZy13
namespace Go.Proofs.YtianiiijaopdpaaGreat
set_option linter.unusedVariables false
set_option linter.unusedSimpArgs false
set_option maxRecDepth 100000
set_option maxHeartbeats 8000000
open _root_.Go.Lib renaming hid → Za
theorem ZfW {G:Prop} (h:G:=by
  generalize a+x+c 9=s at*;go_enter Tryz.func329,Tryz.ntmps329;go_wp2_with (fail);refine HA.out.mono ?_;rintro e w' ⟨rfl,rfl⟩;go_wp2_with (fail);refine (HE.out _).mono ?_;rintro e w' ⟨rfl,rfl⟩;go_wp2_with (fail);go_ret2;exact ⟨by rw [HR.out]; rfl,HB.out⟩) :G:=h
section
open Go Go.RowKit
def Bq (a x:Int)(c:Nat→Int) :Option Int:=if a+x+c 9≤18446744073709551615∧ceilQ (a+x+c 9) (c 7)≤1099511627776 then some (max 1 (ceilQ (a+x+c 9) (c 7))) else none
theorem ob {a x:Int}{c:Nat→Int}(h1:a+x+c 9≤18446744073709551615)(h2:ceilQ (a+x+c 9) (c 7)≤1099511627776) :Bq a x c=some (max 1 (ceilQ (a+x+c 9) (c 7))):=if_pos ⟨h1,h2⟩
theorem uy {a x:Int}{c:Nat→Int}(h: ¬a+x+c 9≤18446744073709551615) :Bq a x c=none:=if_neg (fun e=>h e.1)
theorem ux {a x:Int}{c:Nat→Int}(h: ¬ceilQ (a+x+c 9) (c 7)≤1099511627776) :Bq a x c=none:=if_neg (fun e=>h e.2)
theorem dx {a x k:Int}{c:Nat→Int}(h:Bq a x c=some k) :1≤k∧k≤1099511627776:=by
 unfold Bq at h
 split at h
 ·injection h with h; omega
 ·cases h
theorem cH (w:World)(k:IntKind)(x y z:Int)(t:TypeId) : ∀i,i < 3→(w.alloc (.cells #[.int k x,.int k y,.int k z] t)).cell? ⟨w.heap.size,0+i,none⟩=some (.int k (([x,y,z] :List Int).getD i 0)):=fun i hi=>by
 rw [Nat.zero_add,(Blk.new w t _).cell];have:i=0∨i=1∨i=2:=by omega
 rcases this with rfl | rfl | rfl <;> rfl
theorem fX {x y z:Int}(hx:BU x)(hy:BU y)(hz:BU z) : ∀i,0≤([x,y,z] :List Int).getD i 0∧([x,y,z] :List Int).getD i 0≤18446744073709551615:=fun i=>by
 rcases i with _ | _ | _ | i
 ·exact hx
 ·exact hy
 ·exact hz
 ·simp
theorem OE (x y z:Int) :QB [x,y,z] 3=x+y+z:=by simp [QB]
section
variable {a x:Int} {c:Nat→Int}
theorem nA (hg:Good c)(ha:BU a)(hx:BU x)(w:World) :
  Calls Tryz.prog 23 #[.slice (some ⟨w.heap.size,0,none⟩) 3 3] (w.alloc (.cells #[.int .u64 a,.int .u64 x,.int .u64 (c 9)] 22)) fun e w'=>e= .returned (.tuple #[.int .u64 (Hl [a,x,c 9] 3),.bool (BW [a,x,c 9] 3)])∧(w.alloc (.cells #[.int .u64 a,.int .u64 x,.int .u64 (c 9)] 22))=w':=
 M7 _ _ _ _ _ _ Zm (cH w .u64 a x (c 9) 22) (fX ha hx ⟨hg.fcp0,by have:=hg.fcp1; omega⟩)
theorem II (h:a+x+c 9≤18446744073709551615) :Hl [a,x,c 9] 3=a+x+c 9∧BW [a,x,c 9] 3=true:=by
 have:=M8 (z:= [a,x,c 9]) (n:=3) (by rw [OE]; exact h);rw [OE] at this;exact ⟨this.2,this.1⟩
theorem gR (h: ¬a+x+c 9≤18446744073709551615) :Hl [a,x,c 9] 3=0∧BW [a,x,c 9] 3=false:=by
 have:=PZ (z:= [a,x,c 9]) (n:=3) (by rw [OE]; exact h);exact ⟨this.2,this.1⟩
theorem dA (w:World)(o:Obj)(j:Nat) :((w.alloc (.cells (Zk c) 24)).alloc o).cell? ⟨w.heap.size,j,none⟩=(Zk c)[j]?:=((Blk.new w _ _).alloc o).cell j
theorem Nb (hg:Good c)(ha:BU a)(hx:BU x)(w:World) :
  Calls Tryz.prog 329 #[.int .u64 a,.int .u64 x,.agg (Zk c)] w fun e w'=>e= .returned (KQ (Bq a x c))∧Below w.heap.size w w':=by
 have HA:=Za (nA hg ha hx (w.alloc (.cells (Zk c) 24)));rw [show (w.alloc (.cells (Zk c) 24)).heap.size=w.heap.size+1 by simp] at HA;have c9:(w.alloc (.cells (Zk c) 24)).cell? ⟨w.heap.size,9,none⟩=some (.int .u64 (c 9)):=(Blk.new w _ _).cell 9;have c7:((w.alloc (.cells (Zk c) 24)).alloc (.cells #[.int .u64 a,.int .u64 x,.int .u64 (c 9)] 22)).cell? ⟨w.heap.size,7,none⟩=some (.int .u64 (c 7)):=dA _ _ 7;have HB:Hid (Below w.heap.size w ((w.alloc (.cells (Zk c) 24)).alloc (.cells #[.int .u64 a,.int .u64 x,.int .u64 (c 9)] 22))):=Za (((Below.refl _ _).alloc (Nat.le_refl _) _).alloc ZI _);have s0:0≤a+x+c 9:=by have:=hg.fcp0; have:=ha.1; have:=hx.1; omega
 by_cases h1:a+x+c 9≤18446744073709551615
 ·rw [(II h1).1,(II h1).2] at HA;have m0:0≤c 7∧c 7≤18446744073709551615:=⟨by have:=hg.chu0; omega,by have:=hg.chu1; omega⟩;have hd: ¬c 7=0:=by have:=hg.chu0; omega
  have HE:=Za (fun w=>dO (a+x+c 9) (c 7) w s0 h1 m0.1 m0.2)
  by_cases h2:ceilQ (a+x+c 9) (c 7)≤1099511627776
  ·have hR:=ob h1 h2;rw [(dN _ _ hd h2).1,(dN _ _ hd h2).2] at HE;obtain ⟨r,hr⟩ : ∃r,max 1 (ceilQ (a+x+c 9) (c 7))=r:=⟨_,rfl⟩;rw [hr] at hR;have HR:=Za hR;clear hg ha hx s0 h1 m0 hd h2 hR;generalize ceilQ (a+x+c 9) (c 7)=q at*;exact ZfW
  ·have HR:=Za (ux h2);rw [(Cl _ _ h2).1,(Cl _ _ h2).2] at HE;clear hg ha hx s0 h1 m0 hd h2;exact ZfW
 ·rw [(gR h1).1,(gR h1).2] at HA;have HR:=Za (uy h1);clear hg ha hx s0 h1;go_enter Tryz.func329,Tryz.ntmps329;go_wp2_with (fail);refine HA.out.mono ?_;rintro e w' ⟨rfl,rfl⟩;go_wp2_with (fail);go_ret2;exact ⟨by rw [HR.out]; rfl,HB.out⟩
end
end
end Go.Proofs.YtianiiijaopdpaaGreat
