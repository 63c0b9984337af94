/- Part 15 of 31: L15Epoch. -/
import Derived.Test.YtobgbcdgffgdhaaGreatZw00
import Derived.Test.YtobgbcdgffgdhaaGreatZw04
import Derived.WalkLawsBesides
namespace Go.Proofs.YtobgbcdgffgdhaaGreat
set_option linter.unusedVariables false
set_option linter.unusedSimpArgs false
set_option maxRecDepth 100000
set_option maxHeartbeats 8000000
open Go.Proofs.Tryz
theorem ZhU {G:Prop} (h:G:=by
  have HN:=Za (Fq (CW HT.o Zf) (len -(k+1)));rw [show k+1+(len -(k+1))=len by omega] at HN;generalize z.getD k 0=y at*;go_wp2;go_ret2;exact ⟨by rw [HN.o]; rfl,rfl⟩) :G:=h
theorem ZaM {G:Prop} (h:G:=by
  go_wp2_with fail;refine H.o.mono ?_;rintro e w' ⟨rfl,rfl⟩;go_wp2_with fail;go_ret;exact ⟨rfl,rfl⟩) :G:=h
section
open Go.RowKit
def XH (e:Int)(z:List Int) :Nat->Option Int
 | 0=>if 0<=e/\e<=1099511627776 then some e else none
 | k+1=>match XH e z k with
  | none=>none
  | some s=>if 0<=z.getD k 0/\z.getD k 0<=1099511627776 - s then some (s+z.getD k 0) else none
theorem Fq {e:Int}{z:List Int}{k:Nat}(h:XH e z k=none) : ∀d,XH e z (k+d)=none
 | 0=>h
 | d+1=>by rw [<-Nat.add_assoc]; simp only [XH,Fq h d]
theorem Ta {e:Int}{z:List Int} : ∀ {k:Nat} {s:Int},XH e z k=some s->0<=s/\s<=1099511627776
 | 0,s,h=>by simp only [XH] at h; split at h <;> simp at h; omega
 | k+1,s,h=>by
  simp only [XH] at h
  split at h
  ·simp at h
  ·rename_i s' hs
   have:=Ta hs
   split at h
   ·have:=Option.some.inj h;omega
   ·cases h
theorem CV {e:Int}{z:List Int}{k:Nat}{s:Int}(h:XH e z k=some s)(h0:0<=z.getD k 0)(h1:z.getD k 0<=1099511627776 - s) :XH e z (k+1)=some (s+z.getD k 0):=by
 simp only [XH,h]; rw [if_pos ⟨h0,h1⟩]
theorem CW {e:Int}{z:List Int}{k:Nat}{s:Int}(h:XH e z k=some s)(h0: ¬(0<=z.getD k 0/\z.getD k 0<=1099511627776 - s)) :XH e z (k+1)=none:=by
 simp only [XH,h]; rw [if_neg h0]
def Kv (o:Option Int) :Value:=match o with | none=> .tuple #[.int .i64 0,.bool false] | some s=> .tuple #[.int .i64 s,.bool true]
theorem O0 (e:Int)(a:Option Addr)(len cap:Nat)(w:World)(h:e < 0\/1099511627776 < e) :
  YV 225 #[.int .i64 e,.slice a len cap] w (Kv none):=by
 have H:=Za (gi e w h);clear h;go_enter func225,ntmps225;go_wp2_with fail;refine H.o.mono ?_;rintro e w' ⟨rfl,rfl⟩;go_wp2_with fail;go_ret2;exact DF
theorem OZ (e:Int)(a:Option Addr)(len cap:Nat)(z:List Int)(w:World)(h0:0<=e)(h1:e<=1099511627776)(hlen:len<=9223372036854775807)
  (hz: ∀i,i < len-> -9223372036854775808<=z.getD i 0/\z.getD i 0<=9223372036854775807)
  (hc:0 < len-> ∃b off,a=some ⟨b,off,none⟩/\ ∀i,i < len->w.cell? ⟨b,off+i,none⟩=some (.int .i64 (z.getD i 0))) :
  YV 225 #[.int .i64 e,.slice a len cap] w (Kv (XH e z len)):=by
 have HC:=Za hc;have HZ:=Za hz;have H:=Za (cx e w h0 h1);have HS:=Za (show XH e z 0=some e from if_pos ⟨h0,h1⟩);clear hc hz;go_enter func225,ntmps225;go_wp2_with fail;refine H.o.mono ?_;rintro e w' ⟨rfl,rfl⟩;go_wp2_with fail;go_loop [6,15] (fun s6 s15=> ∃(k:Nat) (s:Int),k<=len/\s15= .int .i64 k/\s6= .int .i64 s/\Zl (XH e z k=some s)) (fun _ s15=>len -(intOf s15).toNat)
 case atStart=>exact ⟨0,e,by omega,rfl,rfl,HS⟩
 case round=>
  obtain ⟨k,s,hk,rfl,rfl,HT⟩:=hrel;obtain ⟨s0,s1⟩:=Ta HT.o
  by_cases XV:k < len
  ·obtain ⟨b,off,rfl,Dn⟩:=HC.o Zf;have UJ:=Dn k XV;clear Dn;obtain ⟨y0,y1⟩:=HZ.o k XV
   by_cases hy:0<=z.getD k 0
   ·by_cases hs:z.getD k 0<=1099511627776 - s
    ·have HN:=Za (CV HT.o hy hs);generalize z.getD k 0=y at*;go_wp2;go_round
     case rel=>exact ⟨k+1,s+y,by omega,by go_num,rfl,HN⟩
     case measure=>exact VL
    ·exact ZhU
   ·exact ZhU
  ·obtain rfl:k=len:=Zf;clear XV;have XV: ¬k < k:=Zf;go_wp2;go_ret2;exact ⟨by rw [HT.o]; rfl,rfl⟩
def NO (z:List Int) :Nat->Int
 | 0=>z.getD 0 0
 | k+1=>max (NO z k) (z.getD (k+1) 0)
theorem Zdr (t y:Int) :(if t < y then y else t)=max t y:=by split <;> omega
theorem IE (b off len cap:Nat)(z:List Int)(w:World)(h0:0 < len)(hlen:len<=9223372036854775807)
  (hc: ∀i,i < len->w.cell? ⟨b,off+i,none⟩=some (.int .i64 (z.getD i 0))) :
  YV 257 #[.slice (some ⟨b,off,none⟩) len cap] w (.int .i64 (NO z (len - 1))):=by
 have OV:w.cell? ⟨b,off,none⟩=some (.int .i64 (z.getD 0 0)):=hc 0 h0;have hl:((len:Int)==0)=false:=Xl;have q5:decide ((len:Int)< 1)=false:=Xl;have HC:=Za hc;clear hc;have HM:=Za (show NO z 0=z.getD 0 0 from rfl);generalize z.getD 0 0=x at*;go_enter func257,ntmps257;go_wp2;go_loop [3,4] (fun s3 s4=> ∃k:Nat,1<=k/\k<=len/\s4= .int .i64 k/\s3= .int .i64 (NO z (k - 1))) (fun _ s4=>len -(intOf s4).toNat)
 case atStart=>exact ⟨1,by omega,by omega,rfl,by rw [HM.o]⟩
 case round=>
  obtain ⟨k,k0,hk,rfl,rfl⟩:=hrel
  by_cases XV:k < len
  ·have UJ:=HC.o k XV;have HS:Zl (NO z (k+1 - 1)=max (NO z (k - 1)) (z.getD k 0)):=by
    obtain ⟨j,rfl⟩ : ∃j,k=j+1:=⟨k - 1,by omega⟩;exact Za rfl
   generalize z.getD k 0=y at*;generalize NO z (k - 1)=t at*;go_wp2;go_round
   case rel=>exact ⟨k+1,by omega,by omega,by go_num,by rw [HS.o,<-Zdr]⟩
   case measure=>exact VL
  ·obtain rfl:k=len:=Zf;clear XV;have XV: ¬k < k:=Zf;exact Uu
theorem xK (b off len cap:Nat)(z:List Int)(w:World)(h0:0 < len)(hlen:len<=9223372036854775807)
  (hc: ∀i,i < len->w.cell? ⟨b,off+i,none⟩=some (.int .i64 (z.getD i 0))) :
  YV 226 #[.slice (some ⟨b,off,none⟩) len cap] w (.int .i64 (NO z (len - 1))):=by
 have H:=Za (IE b off len cap z w h0 hlen hc);have hl:((len:Int)==0)=false:=Xl;clear hc;generalize NO z (len - 1)=t at*;go_enter func226,ntmps226;exact ZaM
end
end Go.Proofs.YtobgbcdgffgdhaaGreat
