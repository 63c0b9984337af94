/- Part 13 of 29: L15Epoch. -/
import Derived.Test.YtianiiijaopdpaaGreatZy00
import Derived.Test.YtianiiijaopdpaaGreatZy03
import Derived.WalkLawsBesides
namespace Go.Proofs.YtianiiijaopdpaaGreat
set_option linter.unusedVariables false
set_option linter.unusedSimpArgs false
set_option maxRecDepth 100000
set_option maxHeartbeats 8000000
open _root_.Go.Lib renaming hid → Za
open _root_.Go.Proofs.Tryz renaming prog → Zb
theorem Zf2 {G:Prop} (h:G:=by
  have HN:=Lib.hid (laterTo_none (laterTo_stop HT.out Zm) (len -(k+1)));rw [show k+1+(len -(k+1))=len by omega] at HN;generalize z.getD k 0=y at*;go_wp2;go_ret2;exact ⟨by rw [HN.out]; rfl,rfl⟩) :G:=h
theorem zm {G:Prop} (h:G:=by
  go_wp2_with fail;refine H.out.mono ?_;rintro e w' ⟨rfl,rfl⟩;go_wp2_with fail;go_ret;exact ⟨rfl,rfl⟩) :G:=h
section
open Go.RowKit
def XI (e:Int)(z:List Int) :Nat→Option Int
 | 0=>if 0≤e∧e≤1099511627776 then some e else none
 | k+1=>match XI e z k with
  | none=>none
  | some s=>if 0≤z.getD k 0∧z.getD k 0≤1099511627776 - s then some (s+z.getD k 0) else none
theorem laterTo_none {e:Int}{z:List Int}{k:Nat}(h:XI e z k=none) : ∀d,XI e z (k+d)=none
 | 0=>h
 | d+1=>by rw [←Nat.add_assoc]; simp only [XI,laterTo_none h d]
theorem Ss {e:Int}{z:List Int} : ∀ {k:Nat} {s:Int},XI e z k=some s→0≤s∧s≤1099511627776
 | 0,s,h=>by simp only [XI] at h; split at h <;> simp at h; omega
 | k+1,s,h=>by
  simp only [XI] at h
  split at h
  ·simp at h
  ·rename_i s' hs
   have:=Ss hs
   split at h
   ·have:=Option.some.inj h;omega
   ·cases h
theorem Cv {e:Int}{z:List Int}{k:Nat}{s:Int}(h:XI e z k=some s)(h0:0≤z.getD k 0)(h1:z.getD k 0≤1099511627776 - s) :XI e z (k+1)=some (s+z.getD k 0):=by
 simp only [XI,h]; rw [if_pos ⟨h0,h1⟩]
theorem laterTo_stop {e:Int}{z:List Int}{k:Nat}{s:Int}(h:XI e z k=some s)(h0: ¬(0≤z.getD k 0∧z.getD k 0≤1099511627776 - s)) :XI e z (k+1)=none:=by
 simp only [XI,h]; rw [if_neg h0]
def KQ (o:Option Int) :Value:=match o with | none=> .tuple #[.int .i64 0,.bool false] | some s=> .tuple #[.int .i64 s,.bool true]
theorem Ot (e:Int)(a:Option Addr)(len cap:Nat)(w:World)(h:e < 0∨1099511627776 < e) :
  Calls Zb 247 #[.int .i64 e,.slice a len cap] w fun e w'=>e= .returned (KQ none)∧w=w':=by
 have H:=Za (eH e w h);clear h;go_enter Tryz.func247,Tryz.ntmps247;go_wp2_with fail;refine H.out.mono ?_;rintro e w' ⟨rfl,rfl⟩;go_wp2_with fail;go_ret2;exact Hd
theorem Oo (e:Int)(a:Option Addr)(len cap:Nat)(z:List Int)(w:World)(h0:0≤e)(h1:e≤1099511627776)(hlen:len≤9223372036854775807)
  (hz: ∀i,i < len→ -9223372036854775808≤z.getD i 0∧z.getD i 0≤9223372036854775807)
  (hc:0 < len→ ∃b off,a=some ⟨b,off,none⟩∧ ∀i,i < len→w.cell? ⟨b,off+i,none⟩=some (.int .i64 (z.getD i 0))) :
  Calls Zb 247 #[.int .i64 e,.slice a len cap] w fun o w'=>o= .returned (KQ (XI e z len))∧w=w':=by
 have HC:=Za hc;have HZ:=Za hz;have H:=Za (bh e w h0 h1);have HS:=Za (show XI e z 0=some e from if_pos ⟨h0,h1⟩);clear hc hz;go_enter Tryz.func247,Tryz.ntmps247;go_wp2_with fail;refine H.out.mono ?_;rintro e w' ⟨rfl,rfl⟩;go_wp2_with fail;go_loop [6,15] (fun s6 s15=> ∃(k:Nat) (s:Int),k≤len∧s15= .int .i64 k∧s6= .int .i64 s∧Hid (XI e z k=some s)) (fun _ s15=>len -(intOf s15).toNat)
 case atStart=>exact ⟨0,e,by omega,rfl,rfl,HS⟩
 case round=>
  obtain ⟨k,s,hk,rfl,rfl,HT⟩:=hrel;obtain ⟨s0,s1⟩:=Ss HT.out
  by_cases XP:k < len
  ·obtain ⟨b,off,rfl,Du⟩:=HC.out Zm;have GS:=Du k XP;clear Du;obtain ⟨y0,y1⟩:=HZ.out k XP
   by_cases hy:0≤z.getD k 0
   ·by_cases hs:z.getD k 0≤1099511627776 - s
    ·have HN:=Za (Cv HT.out hy hs);generalize z.getD k 0=y at*;go_wp2;go_round
     case rel=>exact ⟨k+1,s+y,by omega,by go_num,rfl,HN⟩
     case measure=>exact Bl
    ·exact Zf2
   ·exact Zf2
  ·obtain rfl:k=len:=by omega
   clear XP;have XP: ¬k < k:=by omega
   go_wp2;go_ret2;exact ⟨by rw [HT.out]; rfl,rfl⟩
def Nv (z:List Int) :Nat→Int
 | 0=>z.getD 0 0
 | k+1=>max (Nv z k) (z.getD (k+1) 0)
theorem Zbz (t y:Int) :(if t < y then y else t)=max t y:=by split <;> omega
theorem C6 (b off len cap:Nat)(z:List Int)(w:World)(h0:0 < len)(hlen:len≤9223372036854775807)
  (hc: ∀i,i < len→w.cell? ⟨b,off+i,none⟩=some (.int .i64 (z.getD i 0))) :
  Calls Zb 283 #[.slice (some ⟨b,off,none⟩) len cap] w fun o w'=>o= .returned (.int .i64 (Nv z (len - 1)))∧w=w':=by
 have Ol:w.cell? ⟨b,off,none⟩=some (.int .i64 (z.getD 0 0)):=hc 0 h0;have hl:((len:Int)==0)=false:=by simp; omega
 have pq:decide ((len:Int)< 1)=false:=by simp; omega
 have HC:=Za hc;clear hc;have HM:=Za (show Nv z 0=z.getD 0 0 from rfl);generalize z.getD 0 0=x at*;go_enter Tryz.func283,Tryz.ntmps283;go_wp2;go_loop [3,4] (fun s3 s4=> ∃k:Nat,1≤k∧k≤len∧s4= .int .i64 k∧s3= .int .i64 (Nv z (k - 1))) (fun _ s4=>len -(intOf s4).toNat)
 case atStart=>exact ⟨1,by omega,by omega,rfl,by rw [HM.out]⟩
 case round=>
  obtain ⟨k,k0,hk,rfl,rfl⟩:=hrel
  by_cases XP:k < len
  ·have GS:=HC.out k XP;have HS:Hid (Nv z (k+1 - 1)=max (Nv z (k - 1)) (z.getD k 0)):=by
    obtain ⟨j,rfl⟩ : ∃j,k=j+1:=⟨k - 1,by omega⟩;exact Za rfl
   generalize z.getD k 0=y at*;generalize Nv z (k - 1)=t at*;go_wp2;go_round
   case rel=>exact ⟨k+1,by omega,by omega,by go_num,by rw [HS.out,←Zbz]⟩
   case measure=>exact Bl
  ·obtain rfl:k=len:=by omega
   clear XP;have XP: ¬k < k:=by omega
   exact UI
theorem vJ (b off len cap:Nat)(z:List Int)(w:World)(h0:0 < len)(hlen:len≤9223372036854775807)
  (hc: ∀i,i < len→w.cell? ⟨b,off+i,none⟩=some (.int .i64 (z.getD i 0))) :
  Calls Zb 248 #[.slice (some ⟨b,off,none⟩) len cap] w fun o w'=>o= .returned (.int .i64 (Nv z (len - 1)))∧w=w':=by
 have H:=Za (C6 b off len cap z w h0 hlen hc);have hl:((len:Int)==0)=false:=by simp; omega
 clear hc;generalize Nv z (len - 1)=t at*;go_enter Tryz.func248,Tryz.ntmps248;exact zm
end
end Go.Proofs.YtianiiijaopdpaaGreat
