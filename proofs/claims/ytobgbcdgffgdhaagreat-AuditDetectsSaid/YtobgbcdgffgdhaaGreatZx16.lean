/- Part 16 of 34: L15Epoch. -/
import Derived.Test.YtobgbcdgffgdhaaGreatZx00
import Derived.Test.YtobgbcdgffgdhaaGreatZx04
import Derived.WalkLawsBesides
namespace Go.Proofs.YtobgbcdgffgdhaaGreat
set_option linter.unusedVariables false
set_option linter.unusedSimpArgs false
set_option maxRecDepth 100000
set_option maxHeartbeats 8000000
open Go.Proofs.Tryz
theorem ZmJ {G:Prop} (h:G:=by
  have HN:=Za (La (b9 HT.o Zf) (len -(k+1)));rw [show k+1+(len -(k+1))=len by omega] at HN;generalize z.getD k 0=y at*;go_wp2;go_ret2;exact ⟨by rw [HN.o]; rfl,rfl⟩) :G:=h
theorem Ze9 {G:Prop} (h:G:=by
  go_wp2_with fail;refine H.o.mono ?_;rintro e w' ⟨rfl,rfl⟩;go_wp2_with fail;go_ret;exact ⟨rfl,rfl⟩) :G:=h
section
open Go.RowKit
def XX (e:Int)(z:List Int) :Nat->Option Int
 | 0=>if 0<=e/\e<=1099511627776 then some e else none
 | k+1=>match XX e z k with
  | none=>none
  | some s=>if 0<=z.getD k 0/\z.getD k 0<=1099511627776 - s then some (s+z.getD k 0) else none
theorem La {e:Int}{z:List Int}{k:Nat}(h:XX e z k=none) : ∀d,XX e z (k+d)=none
 | 0=>h
 | d+1=>by rw [<-Nat.add_assoc]; simp only [XX,La h d]
theorem Aq {e:Int}{z:List Int} : ∀ {k:Nat} {s:Int},XX e z k=some s->0<=s/\s<=1099511627776
 | 0,s,h=>by simp only [XX] at h; split at h <;> simp at h; omega
 | k+1,s,h=>by
  simp only [XX] at h
  split at h
  ·simp at h
  ·rename_i s' hs
   have:=Aq hs
   split at h
   ·have:=Option.some.inj h;omega
   ·cases h
theorem bZ {e:Int}{z:List Int}{k:Nat}{s:Int}(h:XX e z k=some s)(h0:0<=z.getD k 0)(h1:z.getD k 0<=1099511627776 - s) :XX e z (k+1)=some (s+z.getD k 0):=by
 simp only [XX,h]; rw [if_pos ⟨h0,h1⟩]
theorem b9 {e:Int}{z:List Int}{k:Nat}{s:Int}(h:XX e z k=some s)(h0: ¬(0<=z.getD k 0/\z.getD k 0<=1099511627776 - s)) :XX e z (k+1)=none:=by
 simp only [XX,h]; rw [if_neg h0]
def KQ (o:Option Int) :Value:=match o with | none=> .tuple #[.int .i64 0,.bool false] | some s=> .tuple #[.int .i64 s,.bool true]
theorem RL (e:Int)(a:Option Addr)(len cap:Nat)(w:World)(h:e < 0\/1099511627776 < e) :
  Y6 225 #[.int .i64 e,.slice a len cap] w (KQ none):=by
 have H:=Za (kY e w h);clear h;go_enter func225,ntmps225;go_wp2_with fail;refine H.o.mono ?_;rintro e w' ⟨rfl,rfl⟩;go_wp2_with fail;go_ret2;exact Gw
theorem RK (e:Int)(a:Option Addr)(len cap:Nat)(z:List Int)(w:World)(h0:0<=e)(h1:e<=1099511627776)(hlen:len<=9223372036854775807)
  (hz: ∀i,i < len-> -9223372036854775808<=z.getD i 0/\z.getD i 0<=9223372036854775807)
  (hc:0 < len-> ∃b off,a=some ⟨b,off,none⟩/\ ∀i,i < len->w.cell? ⟨b,off+i,none⟩=some (.int .i64 (z.getD i 0))) :
  Y6 225 #[.int .i64 e,.slice a len cap] w (KQ (XX e z len)):=by
 have HC:=Za hc;have HZ:=Za hz;have H:=Za (gF e w h0 h1);have HS:=Za (show XX e z 0=some e from if_pos ⟨h0,h1⟩);clear hc hz;go_enter func225,ntmps225;go_wp2_with fail;refine H.o.mono ?_;rintro e w' ⟨rfl,rfl⟩;go_wp2_with fail;go_loop [6,15] (fun s6 s15=> ∃(k:Nat) (s:Int),k<=len/\s15= .int .i64 k/\s6= .int .i64 s/\Zj (XX e z k=some s)) (fun _ s15=>len -(intOf s15).toNat)
 case atStart=>exact ⟨0,e,by omega,rfl,rfl,HS⟩
 case round=>
  obtain ⟨k,s,hk,rfl,rfl,HT⟩:=hrel;obtain ⟨s0,s1⟩:=Aq HT.o
  by_cases XJ:k < len
  ·obtain ⟨b,off,rfl,Bh⟩:=HC.o Zf;have KT:=Bh k XJ;clear Bh;obtain ⟨y0,y1⟩:=HZ.o k XJ
   by_cases hy:0<=z.getD k 0
   ·by_cases hs:z.getD k 0<=1099511627776 - s
    ·have HN:=Za (bZ HT.o hy hs);generalize z.getD k 0=y at*;go_wp2;go_round
     case rel=>exact ⟨k+1,s+y,by omega,by go_num,rfl,HN⟩
     case measure=>exact KX
    ·exact ZmJ
   ·exact ZmJ
  ·obtain rfl:k=len:=Zf;clear XJ;have XJ: ¬k < k:=Zf;go_wp2;go_ret2;exact ⟨by rw [HT.o]; rfl,rfl⟩
def PD (z:List Int) :Nat->Int
 | 0=>z.getD 0 0
 | k+1=>max (PD z k) (z.getD (k+1) 0)
theorem Zh0 (t y:Int) :(if t < y then y else t)=max t y:=by split <;> omega
theorem de (b off len cap:Nat)(z:List Int)(w:World)(h0:0 < len)(hlen:len<=9223372036854775807)
  (hc: ∀i,i < len->w.cell? ⟨b,off+i,none⟩=some (.int .i64 (z.getD i 0))) :
  Y6 257 #[.slice (some ⟨b,off,none⟩) len cap] w (.int .i64 (PD z (len - 1))):=by
 have RG:w.cell? ⟨b,off,none⟩=some (.int .i64 (z.getD 0 0)):=hc 0 h0;have hl:((len:Int)==0)=false:=Xo;have vH:decide ((len:Int)< 1)=false:=Xo;have HC:=Za hc;clear hc;have HM:=Za (show PD z 0=z.getD 0 0 from rfl);generalize z.getD 0 0=x at*;go_enter func257,ntmps257;go_wp2;go_loop [3,4] (fun s3 s4=> ∃k:Nat,1<=k/\k<=len/\s4= .int .i64 k/\s3= .int .i64 (PD z (k - 1))) (fun _ s4=>len -(intOf s4).toNat)
 case atStart=>exact ⟨1,by omega,by omega,rfl,by rw [HM.o]⟩
 case round=>
  obtain ⟨k,k0,hk,rfl,rfl⟩:=hrel
  by_cases XJ:k < len
  ·have KT:=HC.o k XJ;have HS:Zj (PD z (k+1 - 1)=max (PD z (k - 1)) (z.getD k 0)):=by
    obtain ⟨j,rfl⟩ : ∃j,k=j+1:=⟨k - 1,by omega⟩;exact Za rfl
   generalize z.getD k 0=y at*;generalize PD z (k - 1)=t at*;go_wp2;go_round
   case rel=>exact ⟨k+1,by omega,by omega,by go_num,by rw [HS.o,<-Zh0]⟩
   case measure=>exact KX
  ·obtain rfl:k=len:=Zf;clear XJ;have XJ: ¬k < k:=Zf;exact UD
theorem Zcw (b off len cap:Nat)(z:List Int)(w:World)(h0:0 < len)(hlen:len<=9223372036854775807)
  (hc: ∀i,i < len->w.cell? ⟨b,off+i,none⟩=some (.int .i64 (z.getD i 0))) :
  Y6 226 #[.slice (some ⟨b,off,none⟩) len cap] w (.int .i64 (PD z (len - 1))):=by
 have H:=Za (de b off len cap z w h0 hlen hc);have hl:((len:Int)==0)=false:=Xo;clear hc;generalize PD z (len - 1)=t at*;go_enter func226,ntmps226;exact Ze9
end
end Go.Proofs.YtobgbcdgffgdhaaGreat
