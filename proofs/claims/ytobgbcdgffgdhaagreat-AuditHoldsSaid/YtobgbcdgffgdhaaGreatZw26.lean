/- Part 26 of 31: Pts En En2 Eg Mk Qs Go1 Go2 Go3 Go4 Go5. -/
import Derived.Test.YtobgbcdgffgdhaaGreatZw00
import Derived.Test.YtobgbcdgffgdhaaGreatZw11
import Derived.Test.YtobgbcdgffgdhaaGreatZw20
import Derived.Test.YtobgbcdgffgdhaaGreatZw25
namespace Go.Proofs.YtobgbcdgffgdhaaGreat
set_option linter.unusedVariables false
set_option linter.unusedSimpArgs false
set_option maxRecDepth 100000
set_option maxHeartbeats 8000000
open _root_.And renaming intro -> Zn
open _root_.Array renaming all_eq_true_iff_forall_mem -> ZK, getElem?_eq_some_iff -> Ym
open _root_.Go.RowKit renaming Below -> Zp
open _root_.Go.RowKit.Below renaming refl -> Zo
open _root_.Go.Proofs.YtobgbcdgffgdhaaGreat.Zu renaming new -> Zt
open _root_.Go renaming Calls -> Zv, TypeId -> ZJ, Value -> Zk, World -> Zc, heap_alloc_new -> ZA, maxLen -> X8
open _root_.Iff renaming rfl -> KY
open _root_.Go.Instr renaming makeSlice -> UY
open _root_.Int renaming toNat_natCast -> YT
open _root_.Go.Proofs.YtobgbcdgffgdhaaGreat.Zx renaming of_below -> YR, of_grown -> Xu, refl -> ZM, setCell -> Ju
open _root_.List renaming eq_nil_of_length_eq_zero -> ZR, getD_eq_getElem?_getD -> Zm, getElem?_eq_getElem -> Zg, getElem?_eq_some_iff -> Zj, getElem?_map -> ZH, getElem?_toArray -> Xe, length_append -> ZF, length_set -> Xj, length_take -> Xr, map_append -> Xv, range_succ -> KC, replicate -> ZP, take_add_one -> Xs, take_of_length_le -> Yp
open _root_.Go.Lit renaming int -> YJ
open _root_.Nat renaming le_refl -> Zh, le_trans -> ZY, lt_or_ge -> YF, min_eq_left -> U4, zero_add -> ZV, zero_le -> Qu
open _root_.Option.some renaming inj -> ZL
open _root_.Option renaming toList_some -> QL
open _root_.Go.Proofs.Tryz renaming prog -> Zb
open _root_.Go.Value renaming int -> ZI, ownBlock -> Y7, slice -> Yj
open _root_.Go.World renaming setRow_alloc_new -> Zr
open Go.Proofs.Tryz
theorem RY {G:Prop}(h:G:=by simpa using hv) :G:=h
theorem Ut {G:Prop}(h:G:=by rw [Zz Ze,Zq]) :G:=h
theorem Q3 {G H:Prop} (k:H) (h:DE H->G:=by
  intro zk;try simp only [qA]
  exact zk.o) :G:=h ⟨k⟩
theorem I1 {G H:Prop} (k:H) (h:DE H->G:=by
  intro zk;iterate 7 (go_big_quiet_step ((intros; rfl)))
  exact zk.o) :G:=h ⟨k⟩
theorem ZbT {G:Prop} (h:G:=by
  rcases j with _ | _ | _ | _ | _ | _ | _ | _ | j <;> first | rfl | exact absurd rfl hj) :G:=h
theorem Zhr {G:Prop} (h:G:=by
  go_upto_region 1 with (fail);generalize w.alloc (.cells (Zd v') 68)=W at*;refine GL 6 ?_;refine GM ?_;refine Pv ?_;refine QP 68 _ w.heap.size 68 (Zd v') _ rfl rfl rfl (fun w' h=>by obtain ⟨m,rfl⟩:=h; exact HB.o) underlying68 rfl Yb ?_;refine X5 ?_;refine XK ?_;intro _ Jq;obtain ⟨nr,Y9⟩:=Jq;subst Y9;go_wp2_with fail;refine (H.o nr).mono ?_;rintro e w2 ⟨rfl,h2⟩;have h3:=HK.o _ _ _ h2 rfl rfl;have y1:=QS h3.blk 22;obtain ⟨X2,hX2,hN2,hh2,WE,_⟩:=h3.open;have H2:=Za (HP.o _ _ hX2 hh2);have Pz:=Za WE;clear h2 h3 hX2 hN2 hh2 WE H HP HK y0;go_wp2_with fail;refine H2.o.mono ?_;rintro e w3 ⟨rfl,h4⟩;have h4:=Za ((Pz.o _ _ _ h4 rfl rfl).drop HN.o);clear Pz H2;go_wp2_with fail;go_end0;exact ⟨rfl,h4.o⟩) :G:=h
theorem Zeo {G:Prop} (h:G:=by
  rintro e w' ⟨rfl,h2,h3⟩;refine ⟨rfl,h.turn hX (show 1 < N by omega) (fun j hj=>?_) fun S hS=>⟨S,⟨h2,hS.2⟩,fun i hi=> .inl hi,cB h3 hS.2⟩⟩;exact ZbT) :G:=h
theorem ZhW {G:Prop} (h:G:=by
  refine Gy ?_;go_wp2_with fail;exact bodyPost_ret (results_cell_row rfl _ _ (b+1) 53 _ (0,0) _ rfl (setRow_heap _ _ _ _ _ _ HZ.o) underlying53 rfl Vi) rfl ⟨rfl,H4.o.done HN.o _⟩) :G:=h
theorem Zia {G:Prop} (h:G:=by
  rintro e w' ⟨rfl,h1,h2⟩;exact ⟨rfl,h'.more JV (S':=fun i=>i=w.heap.size) ⟨h1,fun i=>Iff.rfl⟩ (fun i hi=>Nat.le_of_eq hi.symm) h2,h2⟩) :G:=h
theorem Zil {G:Prop} (h:G:=by
  rcases g4 with g4 | g4
  ·rw [g4] at hj; exact .inl ((hS.2 j).2 hj)
  ·rw [g4] at hj; injection hj with hj; exact .inr (Nat.le_of_eq hj)) :G:=h
theorem Zew {G:Prop} (h:G:=by
  rintro e w' ⟨v,rfl,h1,h2⟩;exact ⟨v,rfl,h.more hX hN Q5 (GJ h1) (fun i hi=>(VY h1 i hi).1) h2,h2⟩) :G:=h
theorem ZaB {G:Prop} (h:G:=by
  rw [SU] at hK;refine hK.mono ?_;rintro e w' ⟨rfl,go',h1,h2,h3⟩;exact ⟨rfl,go',by simpa using h1,h2,h3⟩) :G:=h
theorem ZaH {G:Prop} (h:G:=by
  go_wp2_with fail;refine H.o.mono ?_;rintro e w' ⟨rfl,m,rfl⟩;go_wp2_with fail;go_ret;exact ⟨rfl,m,rfl⟩) :G:=h
theorem ZaN {G:Prop} (h:G:=by
  go_roundw
  case rel=>exact ⟨k+1,by omega,by go_num,H4,HZ4⟩
  case measure=>simp [intOf]; omega) :G:=h
theorem ZaU {G:Prop} (h:G:=by
  rw [el,<-e2] at h2;exact h.setr UT hr hx h2 (Zx.setCells _ _ _ (Zx.refl _ _) (.inl rfl))) :G:=h
theorem tP {G:Prop} (h:G:=by
  clear HE;go_wp2_with fail;go_ret;exact ⟨_,rfl,H7.o,by rw [HZZ.o]; exact HZ.o⟩) :G:=h
theorem Wm {G:Prop} (h:G:=by
  exact ZbT) :G:=h
theorem Zbg {G:Prop} (h:G:=by
  subst CP;rw [Xm] at hi;exact .inr (Nat.le_trans g2.size (hS i hi))) :G:=h
theorem Zbp {G:Prop} (h:G:=by
  obtain ⟨S,hp,_⟩:=h.part hr;rw [JQ h8,hx] at hp;exact hp.1) :G:=h
theorem kV {G:Prop} (h:G:=by
  clear HE;go_wp2_with fail;go_end0;exact ⟨rfl,H7.o⟩) :G:=h
theorem kW {G:Prop} (h:G:=by
  rw [Uy,List.append_assoc];rfl) :G:=h
section
open Go Go.RowKit
structure Pl where
 c:Nat
 l:Nat
 r:Nat
 u:Nat
 k:Nat
 m:Nat
 n:Nat
 p:Nat
def BI (R E k b size c:Nat)(F:List Zk) :Zc->(Nat->Prop)->Prop:=fun w S=> ∃go,Yv R E k w b go size c F/\ ∀i,S i ↔ QU b go i
def Pt (cf:Nat->Int)(a:Pl)(X:Nat->Zc->(Nat->Prop)->Prop)(s:Sg)(L:List QW) :Nat->Zc->(Nat->Prop)->Prop
 | 0=>fun w S=>DN w a.c s.bk (cf 13)/\ ∀i,S i ↔ i=a.c
 | 1=>fun w S=>Kw w a.l s.D s.P s.B (cf 4)/\ ∀i,S i ↔ i=a.l
 | 2=>fun w S=>EW w a.r S (cf 0).toNat s.V
 | 3=>fun w S=>Gx w a.u S (cf 12).toNat L
 | 4=>fun w S=>oD w a.k s.cu/\ ∀i,S i ↔ i=a.k
 | 5=>fun w S=>(∃Sp T D,KI w a.m s.cy Sp T D/\Jd s.cy Sp T D)/\ ∀i,S i ↔ i=a.m
 | 6=>fun w S=>Ln w a.n S (cf 1).toNat s.F s.W
 | 7=>BI 148 3 1 a.p (cf 1).toNat s.pd.length (s.pd.map (ZI .i64))
 | k=>X k
section
variable {cf:Nat->Int} {a:Pl} {X:Nat->Zc->(Nat->Prop)->Prop} {s:Sg} {L:List QW}
theorem Gj {R E k b size c:Nat}{F:List Zk} :Y3 (BI R E k b size c F):=by
 refine ⟨fun w S h i hi=>?_,fun w w' S T h hk hT=>?_⟩
 ·obtain ⟨go,h1,h2⟩:=h;exact h1.lt i ((h2 i).1 hi)
 ·obtain ⟨go,h1,h2⟩:=h;exact ⟨go,h1.kept hk (fun i hi=>hT i ((h2 i).2 hi)),h2⟩
theorem Xp (hX: ∀k,8<=k->Y3 (X k)) : ∀k,Y3 (Pt cf a X s L k)
 | 0=>Bd
 | 1=>Bd
 | 2=>⟨fun w S h i hi=>h.lt i hi,fun w w' S T h hk hT=>h.kept hk hT⟩
 | 3=>⟨fun w S h i hi=>h.lt i hi,fun w w' S T h hk hT=>h.kept hk hT⟩
 | 4=>Bd
 | 5=>by
  refine ⟨fun w S h i hi=>?_,fun w w' S T h hk hT=>?_⟩
  ·obtain ⟨⟨Sp,T,D,h1,_⟩,h2⟩:=h;rw [(h2 i).1 hi]; exact h1.lt
  ·obtain ⟨⟨Sp,T',D,h1,hf⟩,h2⟩:=h;exact ⟨⟨Sp,T',D,h1.kept hk (hT _ ((h2 _).2 rfl)),hf⟩,h2⟩
 | 6=>⟨fun w S h i hi=>h.lt i hi,fun w w' S T h hk hT=>h.kept hk hT⟩
 | 7=>Gj
 | k+8=>hX (k+8) Ze
end
end
section
open Go Go.RowKit
structure Fb where
 T:Nat->Prop
 w:Zc
def lr (o:Fb)(i:Nat) :Prop:=o.T i\/o.w.heap.size<=i
def En (N:Nat)(w0:Fb)(w:Zc)(cf:Nat->Int)(a:Pl)(X:Nat->Zc->(Nat->Prop)->Prop)(s:Sg)(L:List QW) :Prop:=
 ∃Φ,M6 N (Pt cf a X s L) Φ w/\(∀k,k < N-> ∀i,Φ k i->lr w0 i)/\Zx w0.T w0.w w
section
variable {N:Nat} {w0:Fb} {w w':Zc} {cf:Nat->Int} {a:Pl} {X:Nat->Zc->(Nat->Prop)->Prop} {s s':Sg} {L L':List QW}
theorem Kp {T:Nat->Prop}(hb:Zx w0.T w0.w w)(hk:Zx T w w')(hT: ∀i,T i->lr w0 i) :Zx w0.T w0.w w':=hb.trans hk fun i h1 h2=>(hT i h2).resolve_right Ze
theorem En.below (h:En N w0 w cf a X s L)(hX: ∀k,8<=k->Y3 (X k))(hb:Zp w.heap.size w w') :En N w0 w' cf a X s L:=by
 obtain ⟨Φ,F,h1,h2⟩:=h;exact ⟨Φ,F.below (fun j _=>Xp hX j) hb,h1,h2.trans (YR (S:=fun _=>False) hb) (fun _ _ h=>h.elim)⟩
theorem En.turn (h:En N w0 w cf a X s L)(hX: ∀k,8<=k->Y3 (X k)){k:Nat}(hk:k < N)(Gt: ∀j,j≠k->Pt cf a X s' L' j=Pt cf a X s L j)
  (hn: ∀S,Pt cf a X s L k w S-> ∃S',Pt cf a X s' L' k w' S'/\(∀i,S' i->S i\/w.heap.size<=i)/\Zx S w w') :En N w0 w' cf a X s' L':=by
 obtain ⟨Φ,F,h1,h2⟩:=h;obtain ⟨S',p1,p2,p3⟩:=hn _ (F.part k hk);refine ⟨_,F.turn (fun j _=>Xp hX j) hk (fun j _ hj=>Gt j hj) (Xp hX k) p1 p2 p3,fun j hj i hi=>?_,Kp h2 p3 (h1 k hk)⟩
 by_cases ED:j=k
 ·subst ED;rw [Xm] at hi
  rcases p2 i hi with h3 | h3
  ·exact h1 j hj i h3
  ·exact .inr (ZY h2.size h3)
 ·rw [YP ED] at hi;exact h1 j hj i hi
theorem En.part (h:En N w0 w cf a X s L){k:Nat}(hk:k < N) : ∃S,Pt cf a X s L k w S/\ ∀i,S i->lr w0 i:=by
 obtain ⟨Φ,F,h1,_⟩:=h;exact ⟨Φ k,F.part k hk,h1 k hk⟩
theorem Fl {Φ:Nat->Nat->Prop}{S':Nat->Prop}(g1: ∀k,k < N-> ∀i,Φ k i->lr w0 i)(g2:Zx w0.T w0.w w){k:Nat}(hk:k < N)(hS: ∀i,S' i->Φ k i\/w.heap.size<=i) : ∀j,j < N-> ∀i,Dm Φ k S' j i->lr w0 i:=fun j hj i hi=>by
 by_cases ED:j=k
 ·subst ED;rw [Xm] at hi
  rcases hS i hi with h | h
  ·exact g1 j hj i h
  ·exact .inr (ZY g2.size h)
 ·rw [YP ED] at hi;exact g1 j hj i hi
theorem cB {b:Nat}{S:Nat->Prop}(hg:w.grownBy w' (some b))(hS: ∀i,S i ↔ i=b) :Zx S w w':=Xu hg (fun i hi=>(hS i).2 (ZL hi))
theorem En.tick (h:En N w0 w cf a X s L)(hX: ∀k,8<=k->Y3 (X k))(hN:8<=N)(h0:0<=s.bk)(h1:s.bk<=9223372036854775806)(hL:1<=cf 13) :
  Zv Zb 197 #[.pointer (some ⟨a.c,0,none⟩)] w fun e w'=>e= .returned (.bool ((s.bk+1)%cf 13==0))/\En N w0 w' cf a X { s with bk:=s.bk+1} L:=by
 obtain ⟨S,hp,_⟩:=h.part (show 0 < N by omega);refine (yY a.c s.bk (cf 13) w h0 h1 hL hp.1).mono ?_;rintro e w' ⟨rfl,h2,h3⟩;refine ⟨rfl,h.turn hX (show 0 < N by omega) (fun j hj=>?_) fun S hS=>⟨S,⟨h2,hS.2⟩,fun i hi=> .inl hi,cB h3 hS.2⟩⟩;exact Wm
theorem En.block (h:En N w0 w cf a X s L)(hN:8<=N) :YV 91 #[.pointer (some ⟨a.c,0,none⟩)] w (.int .i64 s.bk):=by
 obtain ⟨S,hp,_⟩:=h.part (show 0 < N by omega);exact lH a.c s.bk (cf 13) w hp.1
theorem En.epoch (h:En N w0 w cf a X s L)(hN:8<=N)(h0:0<=s.bk)(h1:s.bk<=9223372036854775807)(hL:1<=cf 13)(he:s.ep=s.bk/cf 13) :
  Xb 92 #[.pointer (some ⟨a.c,0,none⟩)] w (.int .i64 s.ep):=by
 obtain ⟨S,hp,_⟩:=h.part (show 0 < N by omega);have:=l7 a.c s.bk (cf 13) w h1 hp.1;rw [PG h0 hL,<-he] at this;exact this
theorem En.deposit (h:En N w0 w cf a X s L)(hX: ∀k,8<=k->Y3 (X k))(hN:8<=N)(hF:Jt s.D s.P s.B (cf 4)){x:Int}(x0:0<=x)(hx:x<=cf 4 -(s.D - s.P - s.B))(ho:s.D+x<=18446744073709551615) :
  Zv Zb 168 #[.pointer (some ⟨a.l,0,none⟩),.int .u64 x] w fun e w'=>e= .returned (.int .i64 0)/\En N w0 w' cf a X { s with D:=s.D+x} L:=by
 obtain ⟨S,hp,_⟩:=h.part (show 1 < N by omega);refine (eR a.l s.D s.P s.B (cf 4) x w hp.1 hF x0 hx ho).mono ?_;exact Zeo
theorem En.pay (h:En N w0 w cf a X s L)(hX: ∀k,8<=k->Y3 (X k))(hN:8<=N)(hF:Jt s.D s.P s.B (cf 4)){x:Int}(x0:0<=x)(hx:x<=s.D - s.P - s.B) :
  Zv Zb 247 #[.pointer (some ⟨a.l,0,none⟩),.int .u64 x] w fun e w'=>e= .returned (.int .i64 0)/\En N w0 w' cf a X { s with P:=s.P+x} L:=by
 obtain ⟨S,hp,_⟩:=h.part (show 1 < N by omega);refine (yc a.l s.D s.P s.B (cf 4) x w hp.1 hF x0 hx).mono ?_;exact Zeo
theorem En.burn (h:En N w0 w cf a X s L)(hX: ∀k,8<=k->Y3 (X k))(hN:8<=N)(hF:Jt s.D s.P s.B (cf 4)){x:Int}(x0:0<=x)(hx:x<=s.D - s.P - s.B) :
  Zv Zb 184 #[.pointer (some ⟨a.l,0,none⟩),.int .u64 x] w fun e w'=>e= .returned (.int .i64 0)/\En N w0 w' cf a X { s with B:=s.B+x} L:=by
 obtain ⟨S,hp,_⟩:=h.part (show 1 < N by omega);refine (pL a.l s.D s.P s.B (cf 4) x w hp.1 hF x0 hx).mono ?_;exact Zeo
theorem En.set (h:En N w0 w cf a X s L)(hX: ∀k,8<=k->Y3 (X k))(hN:8<=N){n:Nat}{v v':ZN}(hv:s.V[n]?=some v)(hf:Yh v')(ht:Zw s.V - v.bal+v'.bal<=18446744073709551615) :
  Zv Zb 175 #[.pointer (some ⟨a.r,0,none⟩),.int .i64 (n:Int),.agg (Zd v')] w fun e w'=>e= .returned (.int .i64 0)/\En N w0 w' cf a X { s with V:=s.V.set n v'} L:=by
 obtain ⟨S0,hp0,_⟩:=h.part (show 2 < N by omega);obtain ⟨Φ,F,g1,g2⟩:=h;have hp:=F.part 2 (show 2 < N by omega);refine (sV a.r (cf 0).toNat (Φ 2) n s.V v' w hp hf).mono ?_;rintro e w' (⟨h1,_⟩ | ⟨k,old,h1,h2,h3⟩)
 ·have:=(Zj.1 hv).1; omega
 ·obtain rfl:n=k:=Ze;rw [hv] at h2;obtain rfl:=ZL h2
  rcases h3 with ⟨_,rfl,h4,h5⟩ | ⟨h3,_⟩
  ·refine ⟨rfl,Dm Φ 2 (Φ 2),F.turn (fun j _=>Xp hX j) (show 2 < N by omega) (fun j _ hj=>?_) (Xp hX 2) h4 (fun i hi=> .inl hi) h5,fun j hj i hi=>?_,Kp g2 h5 (g1 2 Ze)⟩
   ·exact Wm
   ·by_cases hj2:j=2
    ·subst hj2; rw [Xm] at hi; exact g1 2 hj i hi
    ·rw [YP hj2] at hi; exact g1 j hj i hi
  ·omega
theorem En.add (h:En N w0 w cf a X s L)(hX: ∀k,8<=k->Y3 (X k))(hN:8<=N){v:ZN}(hf:Yh v)(hl:(s.V.length:Int)< cf 0)(ht:Zw s.V+v.bal<=18446744073709551615) :
  Zv Zb 169 #[.pointer (some ⟨a.r,0,none⟩),.agg (Zd v)] w fun e w'=>e= .returned (.tuple #[.int .i64 s.V.length,.int .i64 0])/\En N w0 w' cf a X { s with V:=s.V++[v]} L:=by
 obtain ⟨Φ,F,g1,g2⟩:=h;refine (o9 a.r (cf 0).toNat (Φ 2) s.V v w (F.part 2 (show 2 < N by omega)) hf).mono ?_;rintro e w' (⟨h1,_⟩ | ⟨_,h1,_⟩ | ⟨_,_,rfl,S',h3,h4,h5⟩)
 ·omega
 ·omega
 ·refine ⟨rfl,Dm Φ 2 S',F.turn (fun j _=>Xp hX j) (show 2 < N by omega) (fun j _ hj=>?_) (Xp hX 2) h3 h4 h5,Fl g1 g2 (show 2 < N by omega) h4,Kp g2 h5 (g1 2 Ze)⟩;exact Wm
def YI (e:ZJ)(k:Nat)(v:Zk)(n:Nat)(xs:List Zk) :Zc->(Nat->Prop)->Prop:=fun w S=>w.ownsRow 0 e k v n xs/\ ∀i,S i ↔ v.ownBlock=some i
theorem VY {base n k:Nat}{e:ZJ}{v:Zk}{xs:List Zk}(h:w.ownsRow base e k v n xs) : ∀i,v.ownBlock=some i->base<=i/\i < w.heap.size:=by
 rcases h.2 with ⟨rfl,h2⟩ | ⟨g,cp,cur,rfl,h1,h3,h4,h5,h6,h7⟩
 ·intro i hi; simp [Y7] at hi
 ·intro i hi;obtain rfl:g=i:=ZL hi;exact ⟨h1,(Ym.1 h3).1⟩
theorem Q5 {e:ZJ}{k n:Nat}{v:Zk}{xs:List Zk} :Y3 (YI e k v n xs):=
 ⟨fun w S h i hi=>(VY h.1 i ((h.2 i).1 hi)).2,fun w w' S T h hk hT=>⟨EJ h.1 hk (fun g hg=>hT g ((h.2 g).2 hg)),h.2⟩⟩
def Y5 (g t:Nat)(cs:Array Zk) :Zc->(Nat->Prop)->Prop:=fun w S=>Zu w g t cs/\ ∀i,S i ↔ i=g
theorem JV {g t:Nat}{cs:Array Zk} :Y3 (Y5 g t cs):=Bd
def ZG (X:Nat->Zc->(Nat->Prop)->Prop)(N:Nat)(Q:Zc->(Nat->Prop)->Prop) :Nat->Zc->(Nat->Prop)->Prop:=fun k=>if k=N then Q else X k
theorem Zq {Q:Zc->(Nat->Prop)->Prop} :ZG X N Q N=Q:=if_pos rfl
theorem iT {Q:Zc->(Nat->Prop)->Prop}(hX: ∀k,8<=k->Y3 (X k))(hQ:Y3 Q) : ∀k,8<=k->Y3 (ZG X N Q k):=fun k hk=>by
 unfold ZG; split
 ·exact hQ
 ·exact hX k hk
theorem JQ {k:Nat}(hk:8<=k) :Pt cf a X s L k=X k:=by
 obtain ⟨j,rfl⟩ : ∃j,k=j+8:=⟨k - 8,by omega⟩;rfl
theorem FA {Q:Zc->(Nat->Prop)->Prop}(hN:8<=N) : ∀j,j < N->Pt cf a (ZG X N Q) s L j=Pt cf a X s L j:=fun j hj=>by
 rcases YF j 8 with h | h
 ·rcases j with _ | _ | _ | _ | _ | _ | _ | _ | j <;> first | rfl | omega
 ·rw [JQ h,JQ h];exact if_neg Ze
theorem En.more (h:En N w0 w cf a X s L)(hX: ∀k,8<=k->Y3 (X k))(hN:8<=N){Q:Zc->(Nat->Prop)->Prop}(hQ:Y3 Q){S':Nat->Prop}(hq:Q w' S')(hS: ∀i,S' i->w.heap.size<=i)(hb:Zp w.heap.size w w') :En (N+1) w0 w' cf a (ZG X N Q) s L:=by
 obtain ⟨Φ,F,g1,g2⟩:=h;have ei:Pt cf a (ZG X N Q) s L N w' S':=by rw [JQ hN,Zq]; exact hq
 refine ⟨Dm Φ N S',F.more (P':=Pt cf a (ZG X N Q) s L) (fun j _=>Xp hX j) (Xp (iT hX hQ) N) (FA hN) ei hS hb,fun j hj i hi=>?_,g2.trans (YR (S:=fun _=>False) hb) (fun _ _ h=>h.elim)⟩
 by_cases CP:j=N
 ·exact Zbg
 ·rw [YP CP] at hi; exact g1 j Ze i hi
theorem En.less (h:En (N+1) w0 w cf a X s L) :En N w0 w cf a X s L:=by
 obtain ⟨Φ,F,g1,g2⟩:=h;exact ⟨Φ,F.less fun _ _=>rfl,fun k hk=>g1 k Ze,g2⟩
theorem jF {Φ:Nat->Nat->Prop}{S':Nat->Prop}{k:Nat}{e:ZJ}{kk n:Nat}{v:Zk}{xs:List Zk}(XV: ∀j,j < N-> ∀i,Φ j i->i < w.heap.size)
  (ho:w'.ownsRow w.heap.size e kk v n xs) (hd: ∀i,S' i->i < w.heap.size\/v.ownBlock≠some i) : ∀j,j < N-> ∀i,Dm Φ k S' j i-> ¬v.ownBlock=some i:=fun j hj i hi hv=>by
 have:=(VY ho i hv).1
 by_cases ED:j=k
 ·subst ED;rw [Xm] at hi
  rcases hd i hi with h1 | h1
  ·omega
  ·exact h1 hv
 ·rw [YP ED] at hi;have:=XV j hj i hi;omega
theorem GJ {e:ZJ}{base k n:Nat}{v:Zk}{xs:List Zk}(h:w.ownsRow base e k v n xs) :YI e k v n xs w (fun i=>v.ownBlock=some i):=⟨Ba h (Qu _),fun i=>KY⟩
theorem En.row (h:En N w0 w cf a X s L){r:Nat}(h8:8<=r)(hr:r < N){e:ZJ}{kk n:Nat}{v:Zk}{xs:List Zk}(hx:X r=YI e kk v n xs) :w.ownsRow 0 e kk v n xs:=Zbp
theorem En.all (h:En N w0 w cf a X s L)(hX: ∀k,8<=k->Y3 (X k))(hN:8<=N) :
  Zv Zb 43 #[.pointer (some ⟨a.r,0,none⟩)] w fun e w'=> ∃v,e= .returned v/\En (N+1) w0 w' cf a (ZG X N (YI 68 7 v s.V.length (Xz s.V))) s L/\Zp w.heap.size w w':=by
 obtain ⟨S,hp,_⟩:=h.part (show 2 < N by omega);refine (vO a.r (cf 0).toNat S s.V w hp).mono ?_;exact Zew
theorem En.put (h:En N w0 w cf a X s L)(hX: ∀k,8<=k->Y3 (X k))(hN:8<=N){ep it:Int}(h0:0<=ep)(h1:ep<=1099511627776)(hL:L.length<=100000) :
  Zv Zb 185 #[.pointer (some ⟨a.u,0,none⟩),.int .i64 ep,.int .i64 it] w fun e w'=>e= .returned (.bool true)/\En N w0 w' cf a X s (L++[(ep,it)]):=by
 have h':=h;obtain ⟨Φ,F,g1,g2⟩:=h;refine (gX a.u (cf 12).toNat (Φ 3) L ep it w (F.part 3 (show 3 < N by omega)) h0 h1 hL).mono ?_;rintro e w' ⟨rfl,S',h3,h4,h5⟩;refine ⟨rfl,Dm Φ 3 S',F.turn (fun j _=>Xp hX j) (show 3 < N by omega) (fun j _ hj=>?_) (Xp hX 3) h3 h4 h5,Fl g1 g2 (show 3 < N by omega) h4,Kp g2 h5 (g1 3 Ze)⟩;exact Wm
theorem En.due (h:En N w0 w cf a X s L)(hX: ∀k,8<=k->Y3 (X k))(hN:8<=N){ep:Int}(h0:0<=ep)(h1:ep<=1099511627776)(hL:L.length<=100000) :
  Zv Zb 234 #[.pointer (some ⟨a.u,0,none⟩),.int .i64 ep] w fun e w'=> ∃v,e= .returned v/\En (N+1) w0 w' cf a (ZG X N (YI 3 1 v (KS ep L).length ((KS ep L).map (ZI .i64)))) s (UO ep L)/\w.heap.size<=w'.heap.size:=by
 obtain ⟨Φ,F,g1,g2⟩:=h;refine (wC a.u (cf 12).toNat (Φ 3) L ep w (F.part 3 (show 3 < N by omega)) h0 h1 hL).mono ?_;rintro e w' ⟨v,S',rfl,ho,h3,h4,h5⟩;have h4': ∀i,S' i->Φ 3 i\/w.heap.size<=i:=fun i hi=> .inl (h4 i hi)
 have F2:=F.turn (P':=Pt cf a X s (UO ep L)) (fun j _=>Xp hX j) (show 3 < N by omega) (fun j _ hj=>by rcases j with _ | _ | _ | _ | _ | _ | _ | _ | j <;> first | rfl | exact absurd rfl hj) (Xp hX 3) h3 h4' h5;have hq:Pt cf a (ZG X N (YI 3 1 v (KS ep L).length ((KS ep L).map (ZI .i64)))) s (UO ep L) N w' (fun i=>v.ownBlock=some i):=by rw [JQ hN,Zq]; exact GJ ho
 have F3:=F2.put (FA hN) hq (fun i hi=>(VY ho i hi).2) (jF F.lt ho fun i hi=> .inl (F.lt 3 Ze i (h4 i hi)));refine ⟨v,rfl,⟨_,F3,fun j hj i hi=>?_,Kp g2 h5 (g1 3 Ze)⟩,h5.size⟩
 by_cases CP:j=N
 ·subst CP; rw [Xm] at hi; exact .inr (ZY g2.size (VY ho i hi).1)
 ·rw [YP CP] at hi;exact Fl g1 g2 (show 3 < N by omega) h4' j Ze i hi
theorem En.ulen (h:En N w0 w cf a X s L)(hX: ∀k,8<=k->Y3 (X k))(hN:8<=N)(hL:L.length<=100000) :
  Zv Zb 51 #[.pointer (some ⟨a.u,0,none⟩)] w fun e w'=>e= .returned (.int .i64 L.length)/\En N w0 w' cf a X s L/\Zp w.heap.size w w':=by
 obtain ⟨S,hp,_⟩:=h.part (show 3 < N by omega);refine (gl a.u (cf 12).toNat S L w hp hL).mono ?_;rintro e w' ⟨rfl,h2⟩;exact ⟨rfl,h.below hX h2,h2⟩
theorem lJ {S:Nat->Prop}{base n:Nat}{v:Zk}{R:List Bool}(h:w.ownsRow base 4 1 v n (R.map Value.bool))(hS: ∀i,v.ownBlock=some i-> ¬S i) : ∃b cp,v= .slice b n cp/\R.length=n/\n<=cp/\Mp w S b R:=by
 have hl:=h.1;rw [List.length_map,Nat.mul_one] at hl
 rcases h.2 with ⟨rfl,h2⟩ | ⟨g,cp,cur,rfl,h1,h3,h4,h5,h6,h7⟩
 ·subst h2;obtain rfl:=ZR hl;exact ⟨none,0,rfl,rfl,by omega,fun h0=>by simp at h0⟩
 ·refine ⟨_,cp,rfl,hl,h4,fun h0=>⟨g,0,rfl,hS g rfl,(Ym.1 h3).1,fun j hj=>?_⟩⟩;have:=h.cells (g:=g) rfl j (.bool (R.getD j false)) iW;rwa [add_plain] at this
theorem En.lpush (h:En N w0 w cf a X s L)(hX: ∀k,8<=k->Y3 (X k))(hN:8<=N)(cl x:Int) :
  Zv Zb 130 #[.pointer (some ⟨a.n,0,none⟩),.int .i64 cl,.int .i64 x] w fun e w'=>e= .returned (.int .i64 (wM (cf 1).toNat s.F s.W cl))/\En N w0 w' cf a X { s with F:=FR (cf 1).toNat s.F cl x,W:=FT (cf 1).toNat s.W cl x} L:=by
 obtain ⟨Φ,F,g1,g2⟩:=h;refine (sn cl x (F.part 6 (show 6 < N by omega))).mono ?_;rintro e w' ⟨rfl,S',h3,h5,h4⟩;refine ⟨rfl,Dm Φ 6 S',F.turn (fun j _=>Xp hX j) (show 6 < N by omega) (fun j _ hj=>?_) (Xp hX 6) h3 h4 h5,Fl g1 g2 (show 6 < N by omega) h4,Kp g2 h5 (g1 6 Ze)⟩;exact Wm
theorem En.lall (h:En N w0 w cf a X s L)(hX: ∀k,8<=k->Y3 (X k))(hN:8<=N)(cl:Int) :
  Zv Zb 46 #[.pointer (some ⟨a.n,0,none⟩),.int .i64 cl] w fun e w'=> ∃v,e= .returned v/\En (N+1) w0 w' cf a (ZG X N (YI 3 1 v (VW s.F s.W cl).length ((VW s.F s.W cl).map (ZI .i64)))) s L/\Zp w.heap.size w w':=by
 obtain ⟨S,hp,_⟩:=h.part (show 6 < N by omega);refine (eC cl hp).mono ?_;exact Zew
theorem En.assign (h:En N w0 w cf a X s L)(hX: ∀k,8<=k->Y3 (X k))(hN:8<=N){r:Nat}(h8:8<=r)(hr:r < N){wv:Zk}{U:List Int}{nu:Nat}{x ep:Int}(vg:X r=YI 23 1 wv nu (U.map (ZI .u64)))(hl:U.length<=9223372036854775807)(hA:Mi U)(hx:0<=x)(bJ:0<=ep)(xj:ep<=1099511627776) :
  Zv Zb 235 #[.int .i64 ep,.pointer (some ⟨a.n,0,none⟩),.pointer (some ⟨a.m,0,none⟩),.int .u64 x,wv] w fun e w'=> ∃v,e= .returned v/\
   En (N+1) w0 w' cf a (ZG X N (YI 280 3 v (EP (Ks U) s.F s.W s.cy x).1.length (Rx (ep+1) (EP (Ks U) s.F s.W s.cy x).1))) { s with F:=(EP (Ks U) s.F s.W s.cy x).2.1,W:=(EP (Ks U) s.F s.W s.cy x).2.2.1,cy:=Ey (EP (Ks U) s.F s.W s.cy x)} L/\w.heap.size<=w'.heap.size:=by
 obtain ⟨Φ,F,g1,g2⟩:=h;obtain ⟨⟨Sp,T,D,hm,hf⟩,hS5⟩:=F.part 5 (show 5 < N by omega);have hap:=F.ap 6 5 Ze Ze Ze;have hn6: ¬Φ 6 a.m:=fun hi=>hap a.m hi ((hS5 a.m).2 rfl)
 have UN:=F.part r hr;rw [JQ h8,vg] at UN;obtain ⟨wa,cap,rfl,hlen,Uz,hu⟩:=Fe (S:=fun i=>i=a.m\/Φ 6 i) UN.1 (fun i hi h=>by
  have h1:=(UN.2 i).2 hi
  rcases h with rfl | h
  ·exact F.ap r 5 hr Ze Ze _ h1 ((hS5 _).2 rfl)
  ·exact F.ap r 6 hr Ze Ze i h1 h)
 subst hlen;refine (sY (F.part 6 (show 6 < N by omega)) hm hf hn6 hu hl hA hx bJ xj).mono ?_;rintro e w' ⟨v,cp,rfl,hh⟩;obtain ⟨S1,T1,D1,k1,k2,k3,k4,k5,k6,k7,k8,k9⟩:=hh.o;have hT: ∀i,(i=a.m\/Φ 6 i)->Φ 6 i\/Φ 5 i:=fun i hi=>hi.elim (fun e=> .inr ((hS5 i).2 e)) .inl
 generalize GR:EP (Ks U) s.F s.W s.cy x=R at*;have F2:=F.turn2 (P':=Pt cf a X { s with F:=R.2.1,W:=R.2.2.1,cy:=Ey R} L) (fun j _=>Xp hX j) (show 6 < N by omega) (show 5 < N by omega) Ze (fun j _ h6 h5=>by rcases j with _ | _ | _ | _ | _ | _ | _ | _ | j <;> first | rfl | exact absurd rfl h6 | exact absurd rfl h5) (Xp hX 6) (Xp hX 5) k1 (R':=Φ 5) ⟨⟨_,_,_,k4,k5⟩,hS5⟩ k2 (fun i hi=>hi) (fun i hi h5=>k3 (by rw [(hS5 i).1 h5] at hi; exact hi)) k8 hT;have hq:Pt cf a (ZG X N (YI 280 3 (.slice v R.1.length cp) R.1.length (Rx (ep+1) R.1))) { s with F:=R.2.1,W:=R.2.2.1,cy:=Ey R} L N w' (fun i=>(Yj v R.1.length cp).ownBlock=some i):=by rw [JQ hN,Zq]; exact GJ k6
 have hold: ∀j,j < N-> ∀i,Dm (Dm Φ 6 S1) 5 (Φ 5) j i-> ¬(Yj v R.1.length cp).ownBlock=some i:=fun j hj i hi hv=>by
  by_cases h5:j=5
  ·subst h5; rw [Xm] at hi;have:=(VY k6 i hv).1;have:=F.lt 5 hj i hi;omega
  ·rw [YP h5] at hi
   by_cases h6:j=6
   ·subst h6; rw [Xm] at hi; exact k7 i hv hi
   ·rw [YP h6] at hi;have:=(VY k6 i hv).1;have:=F.lt j hj i hi;omega
 have F3:=F2.put (FA hN) hq (fun i hi=>(VY k6 i hi).2) hold;refine ⟨_,rfl,⟨_,F3,fun j hj i hi=>?_,Kp g2 k8 (fun i hi=>(hT i hi).elim (g1 6 Ze i) (g1 5 Ze i))⟩,k8.size⟩
 by_cases CP:j=N
 ·subst CP; rw [Xm] at hi; exact .inr (ZY g2.size (VY k6 i hi).1)
 ·rw [YP CP] at hi
  by_cases h5:j=5
  ·subst h5; rw [Xm] at hi; exact g1 5 Ze i hi
  ·rw [YP h5] at hi;exact Fl g1 g2 (show 6 < N by omega) k2 j Ze i hi
theorem En.pall (h:En N w0 w cf a X s L)(hX: ∀k,8<=k->Y3 (X k))(hN:8<=N) :
  Zv Zb 45 #[.pointer (some ⟨a.p,0,none⟩)] w fun e w'=>e= .returned (.slice (some ⟨w.heap.size,0,none⟩) s.pd.length s.pd.length)/\En (N+1) w0 w' cf a (ZG X N (Y5 w.heap.size 3 (s.pd.map (ZI .i64)).toArray)) s L/\Zp w.heap.size w w':=by
 obtain ⟨S,⟨go,hp,_⟩,_⟩:=h.part (show 7 < N by omega);refine (Ty a.p _ _ go _ w hp).mono ?_;rintro e w' ⟨rfl,h1,h2⟩;exact ⟨rfl,h.more hX hN JV (S':=fun i=>i=w.heap.size) ⟨h1,fun i=>KY⟩ (fun i hi=>Nat.le_of_eq hi.symm) h2,h2⟩
theorem En.rcall {X':Nat->Zc->(Nat->Prop)->Prop}{w1:Zc}(h:En N w0 w cf a X s L)(hX: ∀k,8<=k->Y3 (X k))(hb:Zp w.heap.size w w1){k:Nat}(hk:k < N){R E kk b size c c':Nat}{F F':List Zk}
  (hP:Pt cf a X s L k=BI R E kk b size c F) (wX:Pt cf a X' s' L k=BI R E kk b size c' F') (Gt: ∀j,j≠k->Pt cf a X' s' L j=Pt cf a X s L j) {f:FuncId} {args:Array Zk} {v:Zk}
  (hK: ∀go,(∀i,QU b go i->i < w.heap.size)->Yv R E kk w1 b go size c F->Zv Zb f args w1 fun e w'=>e= .returned v/\ ∃go',Yv R E kk w' b go' size c' F'/\UI w1 go go'/\Zx (QU b go) w1 w') :
  Zv Zb f args w1 fun e w'=>e= .returned v/\En N w0 w' cf a X' s' L/\w1.heap.size<=w'.heap.size:=by
 obtain ⟨Φ,F0,g1,g2⟩:=h;have hp:=F0.part k hk;rw [hP] at hp;obtain ⟨go,hr,hS⟩:=hp;have F1:=F0.below (fun j _=>Xp hX j) hb;have g3:Zx w0.T w0.w w1:=g2.trans (YR (S:=fun _=>False) hb) (fun _ _ h=>h.elim);have rl:Yv R E kk w1 b go size c F:=hr.kept (YR (S:=fun _=>False) hb) (fun _ _ h=>h);refine (hK go hr.lt rl).mono ?_;rintro e w' ⟨rfl,go',h1,h2,h3⟩;have WH:Zx (Φ k) w1 w':=h3.more fun i _ hi=>(hS i).2 hi
 have hS': ∀i,QU b go' i->Φ k i\/w1.heap.size<=i:=fun i hi=>by
  rcases hi with rfl | hi
  ·exact .inl ((hS _).2 (.inl rfl))
  ·rcases h2 i hi.symm with h4 | h4
   ·exact .inl ((hS i).2 (.inr h4.symm))
   ·exact .inr h4
 refine ⟨rfl,⟨Dm Φ k (QU b go'),F1.turn (fun j _=>Xp hX j) hk (fun j _ hj=>Gt j hj) (by rw [wX]; exact Gj) (by rw [wX]; exact ⟨go',h1,fun i=>KY⟩) hS' WH,Fl g1 g3 hk hS',Kp g3 WH (g1 k hk)⟩,h3.size⟩
theorem N8 (w:Zc)(xs:Array Zk)(t:ZJ)(len k:Nat)(hl:xs.size=len*k)(h1: ∀v ∈ xs.toList,v.oneCell'=true)(T:Nat->Prop)(hT: ∀i,T i->i < w.heap.size) :Src (w.alloc (.cells xs t)) T (some ⟨w.heap.size,0,none⟩) len k xs.toList:=
 ⟨by simpa using hl,h1,fun _=>⟨_,rfl,fun hf=>Nat.lt_irrefl _ (hT _ hf),fun j v hv=>by
  rw [add_plain,ZV,(Zt w t xs).cell];simpa using hv⟩⟩
theorem En.ppush (h:En N w0 w cf a X s L)(hX: ∀k,8<=k->Y3 (X k))(hN:8<=N){x:Int}(hl:(s.pd.length:Int)< cf 1) :
  Zv Zb 123 #[.pointer (some ⟨a.p,0,none⟩),.slice (some ⟨w.heap.size,0,none⟩) 1 1] (w.alloc (.cells #[.int .i64 x] 3)) fun e w'=>e= .returned (.int .i64 1)/\En N w0 w' cf a X { s with pd:=s.pd++[x]} L/\(w.alloc (.cells #[.int .i64 x] 3)).heap.size<=w'.heap.size:=by
 have SU:min 1 ((cf 1).toNat - s.pd.length)=1:=Ze;refine h.rcall (X':=X) hX ((Zo _ _).alloc (Zh _) _) (show 7 < N by omega) (c':=(s.pd++[x]).length) rfl rfl (fun j hj=>?_) fun go XV hr=>?_
 ·exact Wm
 ·have hK:=Lp a.p (cf 1).toNat s.pd.length 1 1 go _ (s.pd.map (ZI .i64)) [.int .i64 x] _ hr (N8 w #[.int .i64 x] _ 1 1 rfl (fun v hv=>by simp at hv; subst hv; rfl) _ XV) Ze Ze;rw [SU] at hK;refine hK.mono ?_;rintro e w' ⟨rfl,go',h1,h2,h3⟩;refine ⟨rfl,go',?_,h2,h3⟩;rw [ZF,Xv];exact h1
theorem En.activate (h:En N w0 w cf a X s L)(hX: ∀k,8<=k->Y3 (X k))(hN:8<=N){r:Nat}(h8:8<=r)(hr:r < N){wv:Zk}{U:List Int}{nu:Nat}{lim:Int}(vg:X r=YI 23 1 wv nu (U.map (ZI .u64)))(hl:U.length<=9223372036854775807)(hA:Mi U)(ZcP:BH lim) :
  Zv Zb 204 #[.pointer (some ⟨a.p,0,none⟩),.int .u64 lim,wv] w fun e w'=> ∃v,e= .returned v/\
   En (N+1) w0 w' cf a (ZG X N (YI 3 1 v (FP lim (s.pd.map (Ks U))) ((s.pd.take (FP lim (s.pd.map (Ks U)))).map (ZI .i64)))) { s with pd:=s.pd.drop (FP lim (s.pd.map (Ks U)))} L/\w.heap.size<=w'.heap.size:=by
 have h':=h;obtain ⟨Φ,F,g1,g2⟩:=h;obtain ⟨go,hr7,hS7⟩:=F.part 7 (show 7 < N by omega);have UN:=F.part r hr;rw [JQ h8,vg] at UN;obtain ⟨wa,cap,rfl,hlen,Uz,hu⟩:=Fe (S:=QU a.p go) UN.1 (fun i hi h=>F.ap r 7 hr Ze Ze i ((UN.2 i).2 hi) ((hS7 i).2 h));subst hlen;have CU:=F.part 7 (show 7 < N by omega);refine (dy hr7 hu hl hA ZcP).mono ?_;rintro e w' ⟨v,rfl,h1,h2,h3⟩;have hk:Zx (Φ 7) w w':=h3.more fun i _ hi=>(hS7 i).2 hi
 generalize hbt:FP lim (s.pd.map (Ks U))=B at*;have hnew:Pt cf a X { s with pd:=s.pd.drop B} L 7 w' (Φ 7):=⟨go,(by
  show Yv _ _ 1 w' a.p go (cf 1).toNat (s.pd.drop _).length _;rw [List.length_drop];exact h2),hS7⟩
 have F2:=F.turn (P':=Pt cf a X { s with pd:=s.pd.drop B} L) (fun j _=>Xp hX j) (show 7 < N by omega) (fun j _ hj=>by rcases j with _ | _ | _ | _ | _ | _ | _ | _ | j <;> first | rfl | exact absurd rfl hj) (Xp hX 7) hnew (fun i hi=> .inl hi) hk;have hq:Pt cf a (ZG X N (YI 3 1 v B ((s.pd.take B).map (ZI .i64)))) { s with pd:=s.pd.drop B} L N w' (fun i=>v.ownBlock=some i):=by rw [JQ hN,Zq]; exact GJ h1
 have F3:=F2.put (FA hN) hq (fun i hi=>(VY h1 i hi).2) (jF F.lt h1 fun i hi=> .inl (F.lt 7 Ze i hi));refine ⟨v,rfl,⟨_,F3,fun j hj i hi=>?_,Kp g2 hk (g1 7 Ze)⟩,h3.size⟩
 by_cases CP:j=N
 ·subst CP; rw [Xm] at hi; exact .inr (ZY g2.size (VY h1 i hi).1)
 ·rw [YP CP] at hi;exact Fl g1 g2 (show 7 < N by omega) (fun i hi=> .inl hi) j Ze i hi
end
end
section
open Go Go.RowKit
section
variable {N:Nat} {w0:Fb} {w w' w1:Zc} {cf:Nat->Int} {a:Pl} {X X':Nat->Zc->(Nat->Prop)->Prop} {s s':Sg} {L L':List QW}
theorem En.turnX (h:En N w0 w cf a X s L)(hX: ∀k,8<=k->Y3 (X k)){k:Nat}(hk:k < N)(GR:Y3 (Pt cf a X' s' L' k))(Gt: ∀j,j < N->j≠k->Pt cf a X' s' L' j=Pt cf a X s L j)
  (hn: ∀S,Pt cf a X s L k w S-> ∃S',Pt cf a X' s' L' k w' S'/\(∀i,S' i->S i\/w.heap.size<=i)/\Zx S w w') :En N w0 w' cf a X' s' L':=by
 obtain ⟨Φ,F,h1,h2⟩:=h;obtain ⟨S',p1,p2,p3⟩:=hn _ (F.part k hk);exact ⟨_,F.turn (fun j _=>Xp hX j) hk Gt GR p1 p2 p3,Fl h1 h2 hk p2,Kp h2 p3 (h1 k hk)⟩
theorem Xx {Q Q':Zc->(Nat->Prop)->Prop}{r:Nat} :ZG (ZG X r Q) r Q'=ZG X r Q':=by
 funext k; unfold ZG; split <;> rfl
theorem Zz {Q:Zc->(Nat->Prop)->Prop}{k r:Nat}(h:k≠r) :ZG X r Q k=X k:=if_neg h
theorem gV {Q:Zc->(Nat->Prop)->Prop}{r j:Nat}(h8:8<=r)(h:j≠r) :Pt cf a (ZG X r Q) s L j=Pt cf a X s L j:=by
 rcases YF j 8 with h1 | h1
 ·rcases j with _ | _ | _ | _ | _ | _ | _ | _ | j <;> first | rfl | omega
 ·rw [JQ h1,JQ h1];exact if_neg h
theorem To {Q:Zc->(Nat->Prop)->Prop}{r:Nat}(h8:8<=r) :Pt cf a (ZG X r Q) s L r=Q:=by rw [JQ h8]; exact if_pos rfl
theorem En.own (h:En N w0 w cf a X s L)(hX: ∀k,8<=k->Y3 (X k)){r:Nat}(h8:8<=r)(hr:r < N){Q Q':Zc->(Nat->Prop)->Prop}(hx:X r=Q)(hQ:Y3 Q')
  (hn: ∀S,Q w S-> ∃S',Q' w' S'/\(∀i,S' i->S i\/w.heap.size<=i)/\Zx S w w') :En N w0 w' cf a (ZG X r Q') s L:=by
 refine h.turnX hX hr (by rw [To h8]; exact hQ) (fun j _ hj=>gV h8 hj) fun S hS=>?_
 rw [JQ h8,hx] at hS;rw [To h8];exact hn S hS
theorem En.as (h:En N w0 w cf a X s L)(hX: ∀k,8<=k->Y3 (X k)){r:Nat}(h8:8<=r)(hr:r < N){Q Q':Zc->(Nat->Prop)->Prop}(hx:X r=Q)(hQ:Y3 Q')(hn: ∀S,Q w S->Q' w S) :En N w0 w cf a (ZG X r Q') s L:=
 h.own hX h8 hr hx hQ fun S hS=>⟨S,hn S hS,fun i hi=> .inl hi,ZM _ _⟩
theorem En.drewN (h:En N w0 w cf a X s L)(hX: ∀k,8<=k->Y3 (X k))(n:Nat) :En N w0 (w.drewN n) cf a X s L:=h.below hX (below_drewN (Zo _ _) n)
theorem En.drew (h:En N w0 w cf a X s L)(hX: ∀k,8<=k->Y3 (X k)) :En N w0 w.drew cf a X s L:=h.below hX (Zo _ _).drew
theorem En.box (h:En N w0 w cf a X s L)(hX: ∀k,8<=k->Y3 (X k))(hN:8<=N)(cs:Array Zk)(t:ZJ) :En (N+1) w0 (w.alloc (.cells cs t)) cf a (ZG X N (Y5 w.heap.size t cs)) s L:=
 h.more hX hN JV (S':=fun i=>i=w.heap.size) ⟨Zt w t cs,fun i=>KY⟩ (fun i hi=>Nat.le_of_eq hi.symm) ((Zo _ _).alloc (Zh _) _)
theorem En.blkAt (h:En N w0 w cf a X s L){r g t:Nat}{cs:Array Zk}(h8:8<=r)(hr:r < N)(hx:X r=Y5 g t cs) :Zu w g t cs:=Zbp
theorem En.setc (h:En N w0 w cf a X s L)(hX: ∀k,8<=k->Y3 (X k)){r g t:Nat}{cs:Array Zk}(h8:8<=r)(hr:r < N)(hx:X r=Y5 g t cs)(i:Nat)(u:Zk) :En N w0 (w.setCell ⟨g,i,none⟩ u) cf a (ZG X r (Y5 g t (cs.setIfInBounds i u))) s L:=
 h.own hX h8 hr hx JV fun S hS=>⟨S,⟨hS.1.set_ i u,hS.2⟩,fun i hi=> .inl hi,Ju (ZM _ _) (.inl ((hS.2 g).2 rfl)) _⟩
theorem En.setr (h:En N w0 w cf a X s L)(hX: ∀k,8<=k->Y3 (X k)){r g t:Nat}{cs cs':Array Zk}(h8:8<=r)(hr:r < N)(hx:X r=Y5 g t cs)(hw:Zu w' g t cs')(hk:Zx (fun i=>i=g) w w') :En N w0 w' cf a (ZG X r (Y5 g t cs')) s L:=
 h.own hX h8 hr hx JV fun S hS=>⟨S,⟨hw,hS.2⟩,fun i hi=> .inl hi,hk.more fun i _ hi=>(hS.2 i).2 hi⟩
theorem En.grow {ops:Array Oper}{rest:List Oper}{o:Oper}{c:Act}{Q:Exit->Act->Zc->Prop}(h:En N w0 w cf a X s L)(hX: ∀k,8<=k->Y3 (X k)){r:Nat}(h8:8<=r)(hr:r < N){e:ZJ}{size n:Nat}{v:Zk}{xs:List Zk}(hx:X r=YI e size v n xs)
  (BJ:o.guard=none) (sl x:Operand) (t:ZJ) (ho:o.op= .call { callee:= .builtin .append,args:= #[sl,x],argTypes:= #[t,t]}) (i:TypeInfo) (z:Zk) (bytes:Nat) (ht:Tryz.prog.underlying t=some (.slice e)) (hi:Tryz.prog.info? e=some i) (hz:i.zero=some z)
  (Lc:i.size=size) (MG:i.bytes=bytes) (rp:z.cells.size=size) (Bx:0 < size) (hs:c.eval sl=v) (m:Nat) (news:Array Zk) (te:ZJ) (g:Nat) (hg:w.heap.size=g) (hx':c.eval x= .slice (some ⟨g,0,none⟩) m m) (hl:news.toList.length=m*size) (h1: ∀u ∈ news.toList,u.oneCell'=true)
  (mx:n+m<=X8) (Bw:(n+m)*bytes<=140737488355328)
  (K: ∀v' w',En N w0 w' cf a (ZG X r (YI e size v' (n+m) (xs++news.toList))) s L->w.heap.size<=w'.heap.size->wpList Zb ops Q rest (c.put o.dst v') w') :wpList Zb ops Q (o::rest) c (w.alloc (.cells news te)):=by
 subst hg;have hb:Zp w.heap.size w (w.alloc (.cells news te)):=(Zo _ _).alloc (Zh _) _;have h':=h.below hX hb;refine wpList_append_own_at _ BJ sl x t ho 0 e i z size bytes ht hi hz Lc MG rp Bx v n xs hs (h'.row h8 hr hx) ⟨w.heap.size,0,none⟩ m m news.toList hx' hl (fun j u hu=>?_) h1 mx Bw (Qu _) fun v' w' g1 g2 _ g4=>?_
 ·rw [add_plain,ZV,(Zt w te news).cell];simpa using hu
 ·refine K v' w' (h'.own hX h8 hr hx Q5 fun S hS=>⟨_,GJ g1,fun j hj=>?_,Xu g2 fun j hj=>(hS.2 j).2 hj.symm⟩) (ZY hb.size g2.size);exact Zil
theorem En.nil (h:En N w0 w cf a X s L)(hX: ∀k,8<=k->Y3 (X k))(hN:8<=N)(e:ZJ)(k:Nat) :En (N+1) w0 w cf a (ZG X N (YI e k (.slice none 0 0) 0 [])) s L:=
 h.more hX hN Q5 (S':=fun _=>False) ⟨World.ownsRow_nil _ _ _ _,fun i=>by simp [Y7]⟩ (fun _ h=>h.elim) (Zo _ _)
theorem En.turn_join (h:En N w0 w cf a X s L)(hX: ∀k,8<=k->Y3 (X k))(hN:8<=N){k:Nat}(hk:k < 8)(Gt: ∀j,j≠k->Pt cf a X s' L' j=Pt cf a X s L j){Q:Zc->(Nat->Prop)->Prop}{S':Nat->Prop}(hQ:Y3 Q)(hq:Q w' S')(hS: ∀i,S' i->w.heap.size<=i)
  (hn: ∀S,Pt cf a X s L k w S->(∀i,S i->i < w.heap.size)->Pt cf a X s' L' k w' S/\Zx S w w') :En (N+1) w0 w' cf a (ZG X N Q) s' L':=by
 obtain ⟨Φ,F,g1,g2⟩:=h;obtain ⟨p1,p2⟩:=hn _ (F.part k Ze) (F.lt k Ze);have F2:=F.turn (fun j _=>Xp hX j) (show k < N by omega) (fun j _ hj=>Gt j hj) (Xp hX k) p1 (fun i hi=> .inl hi) p2;have ei:Pt cf a (ZG X N Q) s' L' N w' S':=by rw [JQ hN,Zq]; exact hq
 have F3:=F2.put (P':=Pt cf a (ZG X N Q) s' L') (FA hN) ei (fun i hi=>hQ.1 w' S' hq i hi) (fun j hj i hi hv=>by
  have h1:=hS i hv
  by_cases ED:j=k
  ·subst ED;rw [Xm] at hi;have:=F.lt j hj i hi;omega
  ·rw [YP ED] at hi;have:=F.lt j hj i hi;omega)
 refine ⟨_,F3,fun j hj i hi=>?_,Kp g2 p2 (g1 k Ze)⟩
 by_cases CP:j=N
 ·exact Zbg
 ·rw [YP CP] at hi;exact Fl g1 g2 (show k < N by omega) (fun i hi=> .inl hi) j Ze i hi
def Ml (i:Int) :List Zk:= [.int .i64 i]
theorem hH {b:Option Addr}{l:List Int}{S:Nat->Prop}(h:Qf w S b l) : ∃S',KA Ml 1 b l w S'/\ ∀i,S' i-> ¬S i:=by
 rcases Nat.eq_zero_or_pos l.length with h0 | h0
 ·rw [ZR h0];exact ⟨_,KA.nil w b,fun i hi=>hi.elim⟩
 ·obtain ⟨g,off,e,hS,hg,hc⟩:=h h0;refine ⟨fun i=>i=g,⟨fun _=>⟨g,off,e,fun hn=>hn rfl,hg,fun i v hi=>?_⟩,fun i hi=>hi▸hg⟩,fun i hi=>hi▸hS⟩;intro j u hj
  match j,hj with
  | 0,hj=>
   simp only [Ml,List.getElem?_cons_zero,Option.some.injEq] at hj;subst hj;have GQ:=(Zj.1 hi).1;have:=hc i GQ;rw [Zm,hi] at this;exact Bt
theorem En.sweep2 (h:En N w0 w cf a X s L)(hX: ∀k,8<=k->Y3 (X k))(hN:8<=N){r:Nat}(h8:8<=r)(hr:r < N){v:Zk}{n:Nat}{R:List Bool}(hx:X r=YI 4 1 v n (R.map Value.bool)){vs p:Int}(hs:s.cu<=100)(hR:R.length<=100) :
  Zv Zb 248 #[.pointer (some ⟨a.k,0,none⟩),v,.int .i64 vs,.int .i64 p] w fun e w'=> ∃b2 cp,e= .returned (.tuple #[.slice b2 (Kx R s.cu (FY R s.cu vs p)).length cp,.int .i64 (FY R s.cu vs p)])/\
   En (N+1) w0 w' cf a (ZG X N (KA Ml 1 b2 (Kx R s.cu (FY R s.cu vs p)))) { s with cu:=DJ R.length s.cu (FY R s.cu vs p)} L/\w.heap.size<=w'.heap.size:=by
 have h':=h;obtain ⟨Φ,F,g1,g2⟩:=h;have hp:=F.part 4 (show 4 < N by omega);have UN:=F.part r hr;rw [JQ h8,hx] at UN;obtain ⟨b,cap,rfl,hlen,Uz,hb⟩:=lJ (S:=fun i=>i=a.k) UN.1 (fun i hi e=>F.ap r 4 hr Ze Ze i ((UN.2 i).2 hi) ((hp.2 i).2 e));subst hlen;refine (og a.k s.cu b cap R vs p w hp.1 hs hR hb).mono ?_;rintro e w' ⟨m,b2,cp,rfl,hm,hi,hc,hk⟩;obtain rfl:=hm.unique (RU R s.cu vs p);obtain ⟨S',q1,q2⟩:=hH hi.o;refine ⟨b2,cp,rfl,h'.turn_join hX hN (show 4 < 8 by omega) (fun j hj=>?_) P6 q1 (fun i hi=>Nat.not_lt.1 (q2 i hi)) fun S hS _=>⟨⟨hc.o,hS.2⟩,hk.more fun i _ hi=>(hS.2 i).2 hi⟩,hk.size⟩;exact Wm
theorem En.remap {M:Nat}(h:En M w0 w cf a X s L)(f:Nat->Nat)(hf0: ∀k,k < 8->f k=k)(hf1: ∀k,8<=k->8<=f k)(hf: ∀k,k < N->f k < M)(fE: ∀j k,j < N->k < N->f j=f k->j=k)(hZ: ∀k,8<=k->k < N->X' k=X (f k)) :En N w0 w cf a X' s L:=by
 obtain ⟨Φ,F,g1,g2⟩:=h;refine ⟨_,F.remap f hf fE fun k hk=>?_,fun k hk=>g1 _ (hf k hk),g2⟩
 rcases YF k 8 with h1 | h1
 ·rw [hf0 k h1]
  rcases k with _ | _ | _ | _ | _ | _ | _ | _ | k <;> first | rfl | omega
 ·rw [JQ h1,JQ (hf1 k h1),hZ k h1 hk]
theorem En.get_in (h:En N w0 w cf a X s L)(hN:8<=N){n:Nat}{v:ZN}(hv:s.V[n]?=some v) :
  Z3 126 #[.pointer (some ⟨a.r,0,none⟩),.int .i64 (n:Int)] w (.tuple #[.agg (Zd v),.bool true]):=by
 obtain ⟨S,hp,_⟩:=h.part (show 2 < N by omega);refine (jJ a.r (cf 0).toNat S n s.V w hp).mono ?_;rintro e w' ⟨hb,⟨ho,_⟩ | ⟨k,u,hk,hu,rfl⟩⟩
 ·have:=(Zj.1 hv).1; omega
 ·obtain rfl:n=k:=Ze;rw [hv] at hu;obtain rfl:=ZL hu;exact ⟨rfl,hb⟩
theorem En.get_out (h:En N w0 w cf a X s L)(hN:8<=N){i:Int}(hi:i < 0\/(s.V.length:Int)<=i) :
  Z3 126 #[.pointer (some ⟨a.r,0,none⟩),.int .i64 i] w (.tuple #[.agg (Zd ZS),.bool false]):=by
 obtain ⟨S,hp,_⟩:=h.part (show 2 < N by omega);refine (jJ a.r (cf 0).toNat S i s.V w hp).mono ?_;rintro e w' ⟨hb,⟨_,rfl⟩ | ⟨k,u,rfl,hu,_⟩⟩
 ·exact ⟨rfl,hb⟩
 ·have:=(Zj.1 hu).1; omega
theorem En.count (h:En N w0 w cf a X s L)(hN:8<=N){st:Int}(hs:(YJ .i64 st).wf=true) :
  YV 261 #[.pointer (some ⟨a.r,0,none⟩),.int .i64 st] w (.int .i64 (Y8 s.V st)):=by
 obtain ⟨S,hp,_⟩:=h.part (show 2 < N by omega);obtain ⟨m,b,cp,_,_,x2,_,_,_,_,hC,_⟩:=EW.cells hp;exact lS a.r m _ st w x2 hC hs
theorem En.len (h:En N w0 w cf a X s L)(hN:8<=N) :
  YV 120 #[.pointer (some ⟨a.r,0,none⟩)] w (.int .i64 s.V.length):=by
 obtain ⟨S,hp,_⟩:=h.part (show 2 < N by omega);obtain ⟨m,b,cp,_,x1,_⟩:=EW.cells hp;exact CZ a.r _ cp b w x1
theorem En.active (h:En N w0 w cf a X s L)(hN:8<=N) :
  YV 44 #[.pointer (some ⟨a.r,0,none⟩)] w (.int .u64 (Ye s.V)):=by
 obtain ⟨S,hp,_⟩:=h.part (show 2 < N by omega);obtain ⟨m,b,cp,_,_,_,x3,_⟩:=EW.cells hp;exact ey a.r _ w x3
theorem En.at_ (h:En N w0 w cf a X s L)(hN:8<=N) :
  YV 49 #[.pointer (some ⟨a.k,0,none⟩)] w (.int .i64 s.cu):=by
 obtain ⟨S,hp,_⟩:=h.part (show 4 < N by omega);exact Zcd a.k s.cu w hp.1
theorem En.carry (h:En N w0 w cf a X s L)(hN:8<=N) :
  Xb 50 #[.pointer (some ⟨a.m,0,none⟩)] w (.int .u64 s.cy):=by
 obtain ⟨S,⟨⟨Sp,T,D,hm,hf⟩,_⟩,_⟩:=h.part (show 5 < N by omega);exact Si a.m _ Sp T D w hm hf
theorem En.totals (h:En N w0 w cf a X s L)(hN:8<=N) :
  Z3 40 #[.pointer (some ⟨a.l,0,none⟩)] w (.agg #[.int .u64 s.D,.int .u64 s.P,.int .u64 s.B]):=by
 obtain ⟨S,hp,_⟩:=h.part (show 1 < N by omega);exact iM a.l _ _ _ _ w hp.1
theorem En.lfree (h:En N w0 w cf a X s L)(hN:8<=N)(cl:Int) :
  Xb 177 #[.pointer (some ⟨a.n,0,none⟩),.int .i64 cl] w (.int .i64 (Hz (cf 1).toNat s.F s.W cl:Nat)):=by
 obtain ⟨S,hp,_⟩:=h.part (show 6 < N by omega);exact qw cl hp
theorem En.ahead (h:En N w0 w cf a X s L)(hX: ∀k,8<=k->Y3 (X k))(hN:8<=N)(cl:Int) :
  Zv Zb 216 #[.pointer (some ⟨a.n,0,none⟩),.int .i64 cl] w fun e w'=> ∃v,e= .returned v/\En (N+1) w0 w' cf a (ZG X N (YI 3 1 v (Ko s.F s.W cl).length ((Ko s.F s.W cl).map (ZI .i64)))) s L/\Zp w.heap.size w w':=by
 obtain ⟨S,hp,_⟩:=h.part (show 6 < N by omega);refine (ly cl hp).mono ?_;exact Zew
theorem En.pfree (h:En N w0 w cf a X s L)(hN:8<=N) :
  Xb 121 #[.pointer (some ⟨a.p,0,none⟩)] w (.int .i64 (((cf 1).toNat - s.pd.length:Nat) :Int)):=by
 obtain ⟨S,⟨go,hp,_⟩,_⟩:=h.part (show 7 < N by omega);obtain ⟨h1,_,h3⟩:=hp.size_le;exact DX a.p _ _ w hp.cells.1 hp.cells.2 h3 h1
end
end
section
open Go Go.RowKit
structure Ql where
 d:Nat
 q:Nat
 e:Nat
def Jo (l:List (Int × Int)) :List Zk:=YK JX l
def Ja (l:List Rq) :List Zk:=YK Rq.row l
def Uh (c:Nat->Int)(a:Pl)(q:Ql) :Array Zk:= #[.int .i64 (c 0),.int .i64 (c 1),.int .u64 (c 2),.int .u64 (c 3),.int .u64 (c 4),.int .u64 (c 5),.int .u64 (c 6),.int .u64 (c 7),.int .u64 (c 8),.int .u64 (c 9),.int .i64 (c 10),.int .i64 (c 11),.int .i64 (c 12),.int .i64 (c 13),.int .i64 (c 14),.int .i64 (c 15),.int .i64 (c 16),.int .i64 (c 17),.int .u64 (c 18),.int .u64 (c 19),
 .pointer (some ⟨a.c,0,none⟩),.pointer (some ⟨a.r,0,none⟩),.pointer (some ⟨a.l,0,none⟩),.pointer (some ⟨a.k,0,none⟩),.pointer (some ⟨a.n,0,none⟩),.pointer (some ⟨a.m,0,none⟩),.pointer (some ⟨a.u,0,none⟩),.pointer (some ⟨a.p,0,none⟩),.pointer (some ⟨q.d,0,none⟩),.pointer (some ⟨q.q,0,none⟩)]
def XE (c:Nat->Int)(a:Pl)(q:Ql)(mg:List (Int × Int))(pt:List Rq)(X:Nat->Zc->(Nat->Prop)->Prop) :Nat->Zc->(Nat->Prop)->Prop
 | 8=>BI 151 116 2 q.d (c 1).toNat mg.length (Jo mg)
 | 9=>BI 154 119 2 q.q (c 1).toNat pt.length (Ja pt)
 | 10=>Y5 q.e 102 (Uh c a q)
 | k=>X k
def Eg (N:Nat)(w0:Fb)(w:Zc)(c:Nat->Int)(a:Pl)(q:Ql)(Z:Nat->Zc->(Nat->Prop)->Prop)(s:Sg)(L:List QW) :Prop:=
 ∃X,(∀k,11<=k->Y3 (X k))/\(∀k,11<=k->k < N->X k=Z k)/\11<=N/\En N w0 w c a (XE c a q s.mg s.pt X) s L
section
variable {N:Nat} {w0:Fb} {w w' w1:Zc} {c:Nat->Int} {a:Pl} {q:Ql} {X Z Z':Nat->Zc->(Nat->Prop)->Prop} {s s':Sg} {L L':List QW}
theorem EV (hX: ∀k,11<=k->Y3 (X k)){mg:List (Int × Int)}{pt:List Rq} : ∀k,8<=k->Y3 (XE c a q mg pt X k):=fun k hk=>by
 rcases YF k 11 with h | h
 ·obtain rfl | rfl | rfl:k=8\/k=9\/k=10:=Ze
  ·exact Gj
  ·exact Gj
  ·exact JV
 ·obtain ⟨j,rfl⟩ : ∃j,k=j+11:=⟨k - 11,by omega⟩;exact hX _ Ze
theorem FH {mg:List (Int × Int)}{pt:List Rq}{k:Nat}(hk:11<=k) :XE c a q mg pt X k=X k:=by
 obtain ⟨j,rfl⟩ : ∃j,k=j+11:=⟨k - 11,by omega⟩;rfl
theorem Wk {mg:List (Int × Int)}{pt:List Rq}{Q:Zc->(Nat->Prop)->Prop}(hN:11<=N) :ZG (XE c a q mg pt X) N Q=XE c a q mg pt (ZG X N Q):=by
 funext k
 rcases YF k 11 with h | h
 ·have:ZG (XE c a q mg pt X) N Q k=XE c a q mg pt X k:=if_neg Ze;rw [this]
  rcases k with _ | _ | _ | _ | _ | _ | _ | _ | _ | _ | _ | k
  all_goals first | omega | rfl | skip
  all_goals exact (if_neg Ze).symm
 ·unfold ZG;rw [FH h,FH h]
theorem Eg.open (h:Eg N w0 w c a q Z s L) : ∃X,(∀k,8<=k->Y3 (X k))/\8<=N/\En N w0 w c a X s L/\
  (∀w' s' L',En N w0 w' c a X s' L'->s'.mg=s.mg->s'.pt=s.pt->Eg N w0 w' c a q Z s' L')/\
  (∀w' s' L' Q,En (N+1) w0 w' c a (ZG X N Q) s' L'->Y3 Q->s'.mg=s.mg->s'.pt=s.pt->Eg (N+1) w0 w' c a q (ZG Z N Q) s' L')/\(∀k,11<=k->k < N->X k=Z k)/\X 10=Y5 q.e 102 (Uh c a q):=by
 obtain ⟨X,hX,hZ,hN,h⟩:=h;refine ⟨_,EV hX,by omega,h,fun w' s' L' h' e1 e2=>⟨X,hX,hZ,hN,by rw [e1,e2]; exact h'⟩,fun w' s' L' Q h' hQ e1 e2=>⟨ZG X N Q,fun k hk=>?_,fun k h1 h2=>?_,by omega,?_⟩,fun k hk mC=>by rw [FH hk,hZ k hk mC],rfl⟩
 ·unfold ZG; split
  ·exact hQ
  ·exact hX k hk
 ·unfold ZG; split
  ·rfl
  ·exact hZ k h1 Ze
 ·rw [e1,e2,<-Wk hN]; exact h'
theorem Eg.low (h:Eg N w0 w c a q Z s L) :11<=N:=by obtain ⟨X,_,_,hN,_⟩:=h; exact hN
theorem Eg.blk (h:Eg N w0 w c a q Z s L) :Zu w q.e 102 (Uh c a q):=by
 have hN:=h.low;obtain ⟨X,hX,_,h,_,_,_,PK⟩:=h.open;exact h.blkAt (r:=10) Ze Ze PK
theorem Eg.below (h:Eg N w0 w c a q Z s L)(hb:Zp w.heap.size w w') :Eg N w0 w' c a q Z s L:=by
 obtain ⟨X,hX,_,h,k,_⟩:=h.open;exact k _ _ _ (h.below hX hb) rfl rfl
theorem Eg.drewN (h:Eg N w0 w c a q Z s L)(n:Nat) :Eg N w0 (w.drewN n) c a q Z s L:=h.below (below_drewN (Zo _ _) n)
theorem Eg.drew (h:Eg N w0 w c a q Z s L) :Eg N w0 w.drew c a q Z s L:=h.below (Zo _ _).drew
theorem Eg.ext (h:Eg N w0 w c a q Z s L)(hz: ∀k,11<=k->k < N->Z k=Z' k) :Eg N w0 w c a q Z' s L:=by
 obtain ⟨X,hX,hZ,hN,h⟩:=h;exact ⟨X,hX,fun k h1 h2=>(hZ k h1 h2).trans (hz k h1 h2),hN,h⟩
theorem Eg.less (h:Eg (N+1) w0 w c a q Z s L)(hN:11<=N) :Eg N w0 w c a q Z s L:=by
 obtain ⟨X,hX,hZ,_,h⟩:=h;exact ⟨X,hX,fun k h1 h2=>hZ k h1 Ze,hN,h.less⟩
theorem Eg.drop {Q:Zc->(Nat->Prop)->Prop}(h:Eg (N+1) w0 w c a q (ZG Z N Q) s L)(hN:11<=N) :Eg N w0 w c a q Z s L:=(h.less hN).ext fun k _ h2=>if_neg Ze
theorem Eg.box (h:Eg N w0 w c a q Z s L)(cs:Array Zk)(t:ZJ) :Eg (N+1) w0 (w.alloc (.cells cs t)) c a q (ZG Z N (Y5 w.heap.size t cs)) s L:=by
 obtain ⟨X,hX,hN,h,_,k,_⟩:=h.open;exact k _ _ _ _ (h.box hX hN cs t) JV rfl rfl
theorem Eg.nil (h:Eg N w0 w c a q Z s L)(e:ZJ)(k:Nat) :Eg (N+1) w0 w c a q (ZG Z N (YI e k (.slice none 0 0) 0 [])) s L:=by
 obtain ⟨X,hX,hN,h,_,kk,_⟩:=h.open;exact kk _ _ _ _ (h.nil hX hN e k) Q5 rfl rfl
theorem Eg.blkAt (h:Eg N w0 w c a q Z s L){r g t:Nat}{cs:Array Zk}(UT:11<=r)(hr:r < N)(hx:Z r=Y5 g t cs) :Zu w g t cs:=by
 obtain ⟨X,hX,_,h,_,_,hz,_⟩:=h.open;exact h.blkAt (r:=r) Ze hr ((hz r UT hr).trans hx)
theorem Eg.row (h:Eg N w0 w c a q Z s L){r:Nat}(UT:11<=r)(hr:r < N){e:ZJ}{kk n:Nat}{v:Zk}{xs:List Zk}(hx:Z r=YI e kk v n xs) :w.ownsRow 0 e kk v n xs:=by
 obtain ⟨X,hX,_,h,_,_,hz,_⟩:=h.open;exact h.row (r:=r) Ze hr ((hz r UT hr).trans hx)
theorem Eg.own (h:Eg N w0 w c a q Z s L){r:Nat}(UT:11<=r)(hr:r < N){Q Q':Zc->(Nat->Prop)->Prop}(hx:Z r=Q)(hQ:Y3 Q')
  (hn: ∀S,Q w S-> ∃S',Q' w' S'/\(∀i,S' i->S i\/w.heap.size<=i)/\Zx S w w') :Eg N w0 w' c a q (ZG Z r Q') s L:=by
 obtain ⟨X,hX,hZ,hN,h⟩:=h;refine ⟨ZG X r Q',fun k hk=>?_,fun k h1 h2=>?_,hN,?_⟩
 ·unfold ZG; split
  ·exact hQ
  ·exact hX k hk
 ·unfold ZG; split
  ·rfl
  ·exact hZ k h1 h2
 ·rw [<-Wk UT];exact h.own (EV hX) Ze hr ((FH UT).trans ((hZ r UT hr).trans hx)) hQ hn
theorem Eg.as (h:Eg N w0 w c a q Z s L){r:Nat}(UT:11<=r)(hr:r < N){Q Q':Zc->(Nat->Prop)->Prop}(hx:Z r=Q)(hQ:Y3 Q')(hn: ∀S,Q w S->Q' w S) :Eg N w0 w c a q (ZG Z r Q') s L:=
 h.own UT hr hx hQ fun S hS=>⟨S,hn S hS,fun i hi=> .inl hi,ZM _ _⟩
theorem Eg.setc (h:Eg N w0 w c a q Z s L){r g t:Nat}{cs:Array Zk}(UT:11<=r)(hr:r < N)(hx:Z r=Y5 g t cs)(i:Nat)(u:Zk) :Eg N w0 (w.setCell ⟨g,i,none⟩ u) c a q (ZG Z r (Y5 g t (cs.setIfInBounds i u))) s L:=
 h.own UT hr hx JV fun S hS=>⟨S,⟨hS.1.set_ i u,hS.2⟩,fun i hi=> .inl hi,Ju (ZM _ _) (.inl ((hS.2 g).2 rfl)) _⟩
theorem Eg.setr (h:Eg N w0 w c a q Z s L){r g t:Nat}{cs cs':Array Zk}(UT:11<=r)(hr:r < N)(hx:Z r=Y5 g t cs)(hw:Zu w' g t cs')(hk:Zx (fun i=>i=g) w w') :Eg N w0 w' c a q (ZG Z r (Y5 g t cs')) s L:=
 h.own UT hr hx JV fun S hS=>⟨S,⟨hw,hS.2⟩,fun i hi=> .inl hi,hk.more fun i _ hi=>(hS.2 i).2 hi⟩
theorem Eg.more (h:Eg N w0 w c a q Z s L){Q:Zc->(Nat->Prop)->Prop}(hQ:Y3 Q){S':Nat->Prop}(hq:Q w' S')(hS: ∀i,S' i->w.heap.size<=i)(hb:Zp w.heap.size w w') :Eg (N+1) w0 w' c a q (ZG Z N Q) s L:=by
 obtain ⟨X,hX,hN,h,_,k,_⟩:=h.open;exact k _ _ _ _ (h.more hX hN hQ hq hS hb) hQ rfl rfl
theorem Eg.fresh (h:Eg N w0 w c a q Z s L){e:ZJ}{kk n:Nat}{v:Zk}{xs:List Zk}(ho:w'.ownsRow w.heap.size e kk v n xs)(hb:Zp w.heap.size w w') :Eg (N+1) w0 w' c a q (ZG Z N (YI e kk v n xs)) s L:=
 h.more Q5 (GJ ho) (fun i hi=>(VY ho i hi).1) hb
theorem Eg.remap {M:Nat}(h:Eg M w0 w c a q Z s L)(hN:11<=N)(f:Nat->Nat)(hf0: ∀k,k < 11->f k=k)(hf1: ∀k,11<=k->11<=f k)(hf: ∀k,k < N->f k < M)(fE: ∀j k,j < N->k < N->f j=f k->j=k)(hZ: ∀k,11<=k->k < N->Z' k=Z (f k)) :Eg N w0 w c a q Z' s L:=by
 obtain ⟨X,hX,hZ2,_,h⟩:=h;refine ⟨fun k=>X (f k),fun k hk=>hX _ (hf1 k hk),fun k h1 h2=>?_,hN,h.remap f (fun k hk=>hf0 k Ze) (fun k hk=>?_) hf fE fun k h1 h2=>?_⟩
 ·rw [hZ k h1 h2]; exact hZ2 _ (hf1 k h1) (hf k h2)
 ·rcases YF k 11 with h1 | h1
  ·rw [hf0 k h1]; exact hk
  ·have:=hf1 k h1; omega
 ·rcases YF k 11 with h3 | h3
  ·rw [hf0 k h3]
   rcases k with _ | _ | _ | _ | _ | _ | _ | _ | _ | _ | _ | k <;> first | rfl | omega
  ·rw [FH h3,FH (hf1 k h3)]
theorem Eg.pick {m:Nat}{Q:Zc->(Nat->Prop)->Prop}(h:Eg (N+m+1) w0 w c a q Z s L)(hN:11<=N)(hz: ∀k,11<=k->k < N->Z k=Z' k)(hQ:Z (N+m)=Q) :Eg (N+1) w0 w c a q (ZG Z' N Q) s L:=by
 refine h.remap Ze (fun k=>if k=N then N+m else k) (fun k hk=>if_neg Ze) (fun k hk=>by split <;> omega) (fun k hk=>by split <;> omega) (fun j k hj hk e=>?_) fun k h1 h2=>?_
 ·skip
  split at e <;> split at e <;> omega
 ·unfold ZG
  by_cases hk:k=N
  ·rw [if_pos hk,if_pos hk,hQ]
  ·rw [if_neg hk,if_neg hk]; exact (hz k h1 Ze).symm
theorem Eg.grow {ops:Array Oper}{rest:List Oper}{o:Oper}{d:Act}{Q:Exit->Act->Zc->Prop}(h:Eg N w0 w c a q Z s L){r:Nat}(UT:11<=r)(hr:r < N){e:ZJ}{size n:Nat}{v:Zk}{xs:List Zk}(hx:Z r=YI e size v n xs)
  (BJ:o.guard=none) (sl x:Operand) (t:ZJ) (ho:o.op= .call { callee:= .builtin .append,args:= #[sl,x],argTypes:= #[t,t]}) (i:TypeInfo) (z:Zk) (bytes:Nat) (ht:Tryz.prog.underlying t=some (.slice e)) (hi:Tryz.prog.info? e=some i) (hz:i.zero=some z)
  (Lc:i.size=size) (MG:i.bytes=bytes) (rp:z.cells.size=size) (Bx:0 < size) (hs:d.eval sl=v) (m:Nat) (news:Array Zk) (te:ZJ) (g:Nat) (hg:w.heap.size=g) (hx':d.eval x= .slice (some ⟨g,0,none⟩) m m) (hl:news.toList.length=m*size) (h1: ∀u ∈ news.toList,u.oneCell'=true)
  (mx:n+m<=X8) (Bw:(n+m)*bytes<=140737488355328)
  (K: ∀v' w',Eg N w0 w' c a q (ZG Z r (YI e size v' (n+m) (xs++news.toList))) s L->w.heap.size<=w'.heap.size->wpList Zb ops Q rest (d.put o.dst v') w') :wpList Zb ops Q (o::rest) d (w.alloc (.cells news te)):=by
 obtain ⟨X,hX,hZ,hN,h⟩:=h;refine h.grow (EV hX) (show 8<=r by omega) hr ((FH UT).trans ((hZ r UT hr).trans hx)) BJ sl x t ho i z bytes ht hi hz Lc MG rp Bx hs m news te g hg hx' hl h1 mx Bw fun v' w' h' hle=>K v' w' ⟨ZG X r (YI e size v' (n+m) (xs++news.toList)),fun k hk=>?_,fun k h1 h2=>?_,hN,by rw [<-Wk UT]; exact h'⟩ hle
 ·unfold ZG; split
  ·exact Q5
  ·exact hX k hk
 ·unfold ZG; split
  ·rfl
  ·exact hZ k h1 h2
end
end
section
open Go Go.RowKit
section
variable {α:Type} {A:List α} {z x:α} {k:Nat}
def J6 (A:List α)(z:α)(k:Nat) :List α:=A.take k++ZP (A.length - k) z
theorem MD:J6 A z 0=ZP A.length z:=by simp [J6]
theorem OR:J6 A z A.length=A:=by simp [J6]
theorem OS (h:k<=A.length) :(J6 A z k).length=A.length:=by simp [J6]; omega
theorem Hu (h:k < A.length) :J6 A z k=A.take k++z::ZP (A.length -(k+1)) z:=by
 unfold J6;rw [show A.length - k=(A.length -(k+1))+1 by omega,List.replicate_succ]
theorem MC (h:A[k]?=some x) :J6 A z (k+1)=A.take k++x::ZP (A.length -(k+1)) z:=by
 unfold J6;rw [Xs,h,QL,List.append_assoc]; rfl
theorem mi (h:A[k]?=some x) :(J6 A z k).set k x=J6 A z (k+1):=by
 have hk:=(Zj.1 h).1;have hl:(A.take k).length=k:=FN;rw [Hu hk,MC h,List.set_append_right (h:=by omega),hl,Nat.sub_self];rfl
end
theorem cG (x y:Zk) : ∀n:Nat,madeCells #[x,y] (n*2)=((ZP n [x,y]).flatten).toArray:=fun n=>by
 apply Array.toList_inj.1;unfold madeCells;rw [Array.toList_map,Array.toList_range]
 induction n with
 | zero=>rfl
 | succ n ih=>
  rw [show (n+1)*2=n*2+1+1 by omega,KC,KC,Xv,Xv,ih,List.replicate_succ',List.flatten_append];have h1:n*2%(#[x,y] :Array Zk).size=0:=by show n*2%2=0; omega
  have h2:(n*2+1)%(#[x,y] :Array Zk).size=1:=by show (n*2+1)%2=1; omega
  simp [h1,h2]
theorem gI {w:Zc}{g t k n:Nat}{xs:List Zk}(h:Zu w g t xs.toArray)(hl:xs.length=n*k)(hn:n<=X8) :w.ownsRow 0 t k (.slice (some ⟨g,0,none⟩) n n) n xs:=
 ⟨hl,.inr ⟨g,n,_,rfl,Qu _,h,Zh _,hn,by simpa using hl,Yp Xl⟩⟩
section
variable {N:Nat} {w0:Fb} {w w' w1:Zc} {c:Nat->Int} {a:Pl} {q:Ql} {Z:Nat->Zc->(Nat->Prop)->Prop} {s s':Sg} {L L':List QW}
theorem Eg.torow (h:Eg N w0 w c a q Z s L){r g t k n:Nat}{xs:List Zk}(UT:11<=r)(hr:r < N)(hx:Z r=Y5 g t xs.toArray)(hl:xs.length=n*k)(hn:n<=X8) :Eg N w0 w c a q (ZG Z r (YI t k (.slice (some ⟨g,0,none⟩) n n) n xs)) s L:=
 h.as UT hr hx Q5 fun S hS=>⟨gI hS.1 hl hn,fun i=>by rw [hS.2 i]; simp [Y7]; exact eq_comm⟩
end
end
section
open Go Go.RowKit Go.Deep
section
variable {N:Nat} {w0:Fb} {w w' w1:Zc} {c:Nat->Int} {a:Pl} {q:Ql} {X Z:Nat->Zc->(Nat->Prop)->Prop} {s s':Sg} {L L':List QW}
theorem Ft (l:List (Int × Int)) :(Jo l).length=l.length*2:=EB (row:=JX) (k:=2) (fun _=>rfl) l
theorem xN: ∃i,Tryz.prog.info? 116=some i/\i.zero=some (.agg #[.int .i64 0,.int .i64 0])/\i.size=2/\i.bytes=16:=by
 have h:(Tryz.prog.info? 116).map (fun i=>(i.zero,i.size,i.bytes))=some (some (.agg #[.int .i64 0,.int .i64 0]),2,16):=ZC
 cases hi:Tryz.prog.info? 116 with
 | none=>exact Re
 | some i=>
  exact Wn
theorem di (n:Nat)(hn:n<=100000)(w:Zc) :
  (UY 25 (.int .i64 (n:Int)) (.int .i64 (n:Int))).run Zb w= .ok (.slice (some ⟨w.heap.size,0,none⟩) n n) (w.alloc (.cells (Jo (ZP n ((0:Int),(0:Int)))).toArray 116)):=by
 obtain ⟨i,hi,hz,hs,MG⟩:=xN;have Eu:=Jc (P:=Zb) 25 116 i _ underlying25 hi hz .i64 .i64 n n (Zh _) Wl Ze w;rw [hs] at Eu;have e:Jo (ZP n ((0:Int),(0:Int)))=(ZP n [(#[.int .i64 0,.int .i64 0])[0],(#[.int .i64 0,.int .i64 0])[1]]).flatten:=by unfold Jo YK; rw [List.flatMap_def,List.map_replicate]; rfl
 rw [e];have vh:(Value.agg #[.int .i64 0,.int .i64 0]).cells= #[.int .i64 0,.int .i64 0]:=rfl;rw [vh,cG] at Eu;exact Eu
theorem xO {NEW:List (Int × Int)} : ∀j,j≠8->Pt c a (XE c a q NEW s.pt X) { s with mg:=NEW} L j=Pt c a (XE c a q s.mg s.pt X) s L j:=fun j hj=>by
 rcases j with _ | _ | _ | _ | _ | _ | _ | _ | _ | _ | _ | j <;> first | rfl | exact absurd rfl hj
theorem Eg.mcall (h:Eg N w0 w c a q Z s L)(hb:Zp w.heap.size w w1){NEW:List (Int × Int)}{f:FuncId}{args:Array Zk}{v:Zk}
  (hK: ∀go,(∀i,QU q.d go i->i < w.heap.size)->Yv 151 116 2 w1 q.d go (c 1).toNat s.mg.length (Jo s.mg)->Zv Zb f args w1 fun e w'=>e= .returned v/\ ∃go',Yv 151 116 2 w' q.d go' (c 1).toNat NEW.length (Jo NEW)/\UI w1 go go'/\Zx (QU q.d go) w1 w') :
  Zv Zb f args w1 fun e w'=>e= .returned v/\Eg N w0 w' c a q Z { s with mg:=NEW} L/\w1.heap.size<=w'.heap.size:=by
 obtain ⟨X,hX,hZ,hN,h⟩:=h;exact (h.rcall (X':=XE c a q NEW s.pt X) (s':= { s with mg:=NEW}) (k:=8) (EV hX) hb Ze rfl rfl xO hK).mono fun e w' ⟨he,h1,h2⟩=>⟨he,⟨X,hX,hZ,hN,h1⟩,h2⟩
theorem Eg.mlen (h:Eg N w0 w c a q Z s L) :YV 288 #[.pointer (some ⟨q.d,0,none⟩)] w (.int .i64 s.mg.length):=by
 obtain ⟨X,hX,hZ,hN,h⟩:=h;obtain ⟨S,⟨go,hp,_⟩,_⟩:=h.part (k:=8) (show 8 < N by omega);exact Tu q.d _ w hp.cells.2
theorem Eg.mpop (h:Eg N w0 w c a q Z s L){p:Int × Int}{rest:List (Int × Int)}(hm:s.mg=p::rest) :Zv Zb 289 #[.pointer (some ⟨q.d,0,none⟩)] w fun e w'=>e= .returned (.tuple #[.agg (Yx p),.bool true])/\Eg N w0 w' c a q Z { s with mg:=rest} L/\w.heap.size<=w'.heap.size:=
 h.mcall (Zo _ _) fun go XV hr=>by
  rw [hm] at hr;exact (ny q.d _ rest.length go (Jo rest) (.int .i64 p.1) (.int .i64 p.2) w hr).mono fun e w' ⟨he,h1,h2⟩=>⟨he,go,h1,fun i hi=> .inl hi,h2⟩
theorem Eg.mpush (h:Eg N w0 w c a q Z s L)(p:Int × Int)(hl:(s.mg.length:Int)< c 1) :Zv Zb 133 #[.pointer (some ⟨q.d,0,none⟩),.slice (some ⟨w.heap.size,0,none⟩) 1 1] (w.alloc (.cells (Yx p) 116)) fun e w'=>e= .returned (.int .i64 1)/\Eg N w0 w' c a q Z { s with mg:=s.mg++[p]} L:=by
 have SU:min 1 ((c 1).toNat - s.mg.length)=1:=Ze;refine (h.mcall ((Zo _ _).alloc (Zh _) _) fun go XV hr=>?_).mono fun e w' ⟨he,h1,_⟩=>⟨he,h1⟩
 have hK:=PZ q.d (c 1).toNat s.mg.length 1 1 go _ (Jo s.mg) (Yx p).toList _ hr (N8 w (Yx p) _ 1 2 rfl (fun v hv=>ZK.1 (Ug p) v RY) _ XV) Ze Ze;rw [SU] at hK;refine hK.mono ?_;rintro e w' ⟨rfl,go',h1,h2,h3⟩;refine ⟨rfl,go',?_,h2,h3⟩;rw [ZF,show Jo (s.mg++[p])=Jo s.mg++JX p by unfold Jo; rw [Uy,LY]];exact h1
theorem Eg.mfull (h:Eg N w0 w c a q Z s L)(p:Int × Int)(hl:c 1<=(s.mg.length:Int)) :Zv Zb 133 #[.pointer (some ⟨q.d,0,none⟩),.slice (some ⟨w.heap.size,0,none⟩) 1 1] (w.alloc (.cells (Yx p) 116)) fun e w'=>e= .returned (.int .i64 0)/\Eg N w0 w' c a q Z s L:=by
 have SU:min 1 ((c 1).toNat - s.mg.length)=0:=Ze;refine (h.mcall (NEW:=s.mg) ((Zo _ _).alloc (Zh _) _) fun go XV hr=>?_).mono fun e w' ⟨he,h1,_⟩=>⟨he,h1⟩
 have hK:=PZ q.d (c 1).toNat s.mg.length 1 1 go _ (Jo s.mg) (Yx p).toList _ hr (N8 w (Yx p) _ 1 2 rfl (fun v hv=>ZK.1 (Ug p) v RY) _ XV) Ze Ze;exact ZaB
theorem Eg.mall (h:Eg N w0 w c a q Z s L) :Zv Zb 47 #[.pointer (some ⟨q.d,0,none⟩)] w fun e w'=>e= .returned (.slice (some ⟨w.heap.size,0,none⟩) s.mg.length s.mg.length)/\Eg (N+1) w0 w' c a q (ZG Z N (Y5 w.heap.size 116 (Jo s.mg).toArray)) s L/\Zp w.heap.size w w':=by
 have h':=h;obtain ⟨X,hX,hZ,hN,h⟩:=h;obtain ⟨S,⟨go,hp,_⟩,_⟩:=h.part (k:=8) (show 8 < N by omega);refine (gY q.d _ _ go _ w hp).mono ?_;exact Zia
theorem Eg.mstore (h:Eg N w0 w c a q Z s L){r g j:Nat}{A:List (Int × Int)}{p:Int × Int}(UT:11<=r)(hr:r < N)(hx:Z r=Y5 g 116 (Jo (J6 A ((0:Int),(0:Int)) j)).toArray)(hj:A[j]?=some p) :
  w.there g (j*2) 2/\Eg N w0 (w.setCells g (j*2) (Yx p).toList) c a q (ZG Z r (Y5 g 116 (Jo (J6 A ((0:Int),(0:Int)) (j+1))).toArray)) s L:=by
 have EE:=(Zj.1 hj).1;have hB:=h.blkAt UT hr hx;have e1:Jo (J6 A ((0:Int),(0:Int)) j)=Jo (A.take j)++JX ((0:Int),(0:Int))++Jo (ZP (A.length -(j+1)) ((0:Int),(0:Int))):=by
  rw [Hu EE]; unfold Jo; exact kW
 have e2:Jo (J6 A ((0:Int),(0:Int)) (j+1))=Jo (A.take j)++JX p++Jo (ZP (A.length -(j+1)) ((0:Int),(0:Int))):=by
  rw [MC hj]; unfold Jo; exact kW
 have el:(Jo (A.take j)).length=j*2:=by rw [Ft,Xr,U4 Ze]
 refine ⟨fun i hi=>⟨?_,hB.frozen _⟩,?_⟩
 ·rw [hB.cell,Xe,Zg (by rw [Ft,OS Ze]; omega)]; rfl
 ·have Ar:=hB;rw [e1] at Ar;have h2:=GF (JX p) (Jo (A.take j)) (JX ((0:Int),(0:Int))) _ w rfl Ar;exact ZaU
theorem Fz (l:List (Rq)) :(Ja l).length=l.length*2:=EB (row:=Rq.row) (k:=2) (fun _=>rfl) l
theorem yh: ∃i,Tryz.prog.info? 119=some i/\i.zero=some (.agg #[.int .i64 0,.int .u64 0])/\i.size=2/\i.bytes=16:=by
 have h:(Tryz.prog.info? 119).map (fun i=>(i.zero,i.size,i.bytes))=some (some (.agg #[.int .i64 0,.int .u64 0]),2,16):=ZC;exact Zig
theorem dj (n:Nat)(hn:n<=100000)(w:Zc) :
  (UY 26 (.int .i64 (n:Int)) (.int .i64 (n:Int))).run Zb w= .ok (.slice (some ⟨w.heap.size,0,none⟩) n n) (w.alloc (.cells (Ja (ZP n Mm)).toArray 119)):=by
 obtain ⟨i,hi,hz,hs,MG⟩:=yh;have Eu:=Jc (P:=Zb) 26 119 i _ underlying26 hi hz .i64 .i64 n n (Zh _) Wl Ze w;rw [hs] at Eu;have e:Ja (ZP n Mm)=(ZP n [(#[.int .i64 0,.int .u64 0])[0],(#[.int .i64 0,.int .u64 0])[1]]).flatten:=by unfold Ja YK; rw [List.flatMap_def,List.map_replicate]; rfl
 rw [e];have vh:(Value.agg #[.int .i64 0,.int .u64 0]).cells= #[.int .i64 0,.int .u64 0]:=rfl;rw [vh,cG] at Eu;exact Eu
theorem yi {NEW:List (Rq)} : ∀j,j≠9->Pt c a (XE c a q s.mg NEW X) { s with pt:=NEW} L j=Pt c a (XE c a q s.mg s.pt X) s L j:=fun j hj=>by
 rcases j with _ | _ | _ | _ | _ | _ | _ | _ | _ | _ | _ | j <;> first | rfl | exact absurd rfl hj
theorem Eg.tcall (h:Eg N w0 w c a q Z s L)(hb:Zp w.heap.size w w1){NEW:List (Rq)}{f:FuncId}{args:Array Zk}{v:Zk}
  (hK: ∀go,(∀i,QU q.q go i->i < w.heap.size)->Yv 154 119 2 w1 q.q go (c 1).toNat s.pt.length (Ja s.pt)->Zv Zb f args w1 fun e w'=>e= .returned v/\ ∃go',Yv 154 119 2 w' q.q go' (c 1).toNat NEW.length (Ja NEW)/\UI w1 go go'/\Zx (QU q.q go) w1 w') :
  Zv Zb f args w1 fun e w'=>e= .returned v/\Eg N w0 w' c a q Z { s with pt:=NEW} L/\w1.heap.size<=w'.heap.size:=by
 obtain ⟨X,hX,hZ,hN,h⟩:=h;exact (h.rcall (X':=XE c a q s.mg NEW X) (s':= { s with pt:=NEW}) (k:=9) (EV hX) hb Ze rfl rfl yi hK).mono fun e w' ⟨he,h1,h2⟩=>⟨he,⟨X,hX,hZ,hN,h1⟩,h2⟩
theorem Eg.tlen (h:Eg N w0 w c a q Z s L) :YV 274 #[.pointer (some ⟨q.q,0,none⟩)] w (.int .i64 s.pt.length):=by
 obtain ⟨X,hX,hZ,hN,h⟩:=h;obtain ⟨S,⟨go,hp,_⟩,_⟩:=h.part (k:=9) (show 9 < N by omega);exact TH q.q _ w hp.cells.2
theorem Eg.tpop (h:Eg N w0 w c a q Z s L){p:Rq}{rest:List (Rq)}(hm:s.pt=p::rest) :Zv Zb 275 #[.pointer (some ⟨q.q,0,none⟩)] w fun e w'=>e= .returned (.tuple #[.agg (ZB p),.bool true])/\Eg N w0 w' c a q Z { s with pt:=rest} L/\w.heap.size<=w'.heap.size:=
 h.tcall (Zo _ _) fun go XV hr=>by
  rw [hm] at hr;exact (nG q.q _ rest.length go (Ja rest) (.int .i64 p.ix) (.int .u64 p.am) w hr).mono fun e w' ⟨he,h1,h2⟩=>⟨he,go,h1,fun i hi=> .inl hi,h2⟩
theorem Eg.tpush (h:Eg N w0 w c a q Z s L)(p:Rq)(hl:(s.pt.length:Int)< c 1) :Zv Zb 135 #[.pointer (some ⟨q.q,0,none⟩),.slice (some ⟨w.heap.size,0,none⟩) 1 1] (w.alloc (.cells (ZB p) 119)) fun e w'=>e= .returned (.int .i64 1)/\Eg N w0 w' c a q Z { s with pt:=s.pt++[p]} L:=by
 have SU:min 1 ((c 1).toNat - s.pt.length)=1:=Ze;refine (h.tcall ((Zo _ _).alloc (Zh _) _) fun go XV hr=>?_).mono fun e w' ⟨he,h1,_⟩=>⟨he,h1⟩
 have hK:=P5 q.q (c 1).toNat s.pt.length 1 1 go _ (Ja s.pt) (ZB p).toList _ hr (N8 w (ZB p) _ 1 2 rfl (fun v hv=>ZK.1 (Kf p) v RY) _ XV) Ze Ze;rw [SU] at hK;refine hK.mono ?_;rintro e w' ⟨rfl,go',h1,h2,h3⟩;refine ⟨rfl,go',?_,h2,h3⟩;rw [ZF,show Ja (s.pt++[p])=Ja s.pt++Rq.row p by unfold Ja; rw [Uy,LY]];exact h1
theorem Eg.tfull (h:Eg N w0 w c a q Z s L)(p:Rq)(hl:c 1<=(s.pt.length:Int)) :Zv Zb 135 #[.pointer (some ⟨q.q,0,none⟩),.slice (some ⟨w.heap.size,0,none⟩) 1 1] (w.alloc (.cells (ZB p) 119)) fun e w'=>e= .returned (.int .i64 0)/\Eg N w0 w' c a q Z s L:=by
 have SU:min 1 ((c 1).toNat - s.pt.length)=0:=Ze;refine (h.tcall (NEW:=s.pt) ((Zo _ _).alloc (Zh _) _) fun go XV hr=>?_).mono fun e w' ⟨he,h1,_⟩=>⟨he,h1⟩
 have hK:=P5 q.q (c 1).toNat s.pt.length 1 1 go _ (Ja s.pt) (ZB p).toList _ hr (N8 w (ZB p) _ 1 2 rfl (fun v hv=>ZK.1 (Kf p) v RY) _ XV) Ze Ze;exact ZaB
theorem Eg.tall (h:Eg N w0 w c a q Z s L) :Zv Zb 48 #[.pointer (some ⟨q.q,0,none⟩)] w fun e w'=>e= .returned (.slice (some ⟨w.heap.size,0,none⟩) s.pt.length s.pt.length)/\Eg (N+1) w0 w' c a q (ZG Z N (Y5 w.heap.size 119 (Ja s.pt).toArray)) s L/\Zp w.heap.size w w':=by
 have h':=h;obtain ⟨X,hX,hZ,hN,h⟩:=h;obtain ⟨S,⟨go,hp,_⟩,_⟩:=h.part (k:=9) (show 9 < N by omega);refine (iv q.q _ _ go _ w hp).mono ?_;exact Zia
theorem Eg.tstore (h:Eg N w0 w c a q Z s L){r g j:Nat}{A:List (Rq)}{p:Rq}(UT:11<=r)(hr:r < N)(hx:Z r=Y5 g 119 (Ja (J6 A Mm j)).toArray)(hj:A[j]?=some p) :
  w.there g (j*2) 2/\Eg N w0 (w.setCells g (j*2) (ZB p).toList) c a q (ZG Z r (Y5 g 119 (Ja (J6 A Mm (j+1))).toArray)) s L:=by
 have EE:=(Zj.1 hj).1;have hB:=h.blkAt UT hr hx;have e1:Ja (J6 A Mm j)=Ja (A.take j)++Rq.row Mm++Ja (ZP (A.length -(j+1)) Mm):=by
  rw [Hu EE]; unfold Ja; exact kW
 have e2:Ja (J6 A Mm (j+1))=Ja (A.take j)++Rq.row p++Ja (ZP (A.length -(j+1)) Mm):=by
  rw [MC hj]; unfold Ja; exact kW
 have el:(Ja (A.take j)).length=j*2:=by rw [Fz,Xr,U4 Ze]
 refine ⟨fun i hi=>⟨?_,hB.frozen _⟩,?_⟩
 ·rw [hB.cell,Xe,Zg (by rw [Fz,OS Ze]; omega)]; rfl
 ·have Ar:=hB;rw [e1] at Ar;have h2:=GF (Rq.row p) (Ja (A.take j)) (Rq.row Mm) _ w rfl Ar;exact ZaU
end
end
section
open Go Go.RowKit
section
variable {N:Nat} {w0:Fb} {w w' w1:Zc} {c:Nat->Int} {a:Pl} {q:Ql} {Z:Nat->Zc->(Nat->Prop)->Prop} {s s':Sg} {L L':List QW}
theorem eV (h:Eg N w0 w c a q Z s L) :YV 41 #[.pointer (some ⟨q.e,20,none⟩)] w (.int .i64 s.bk):=by
 have x0:=QS h.blk 20;obtain ⟨X,hX,hN,hh,_⟩:=h.open;have H:=Za (hh.block hN);clear h hh hX hN;go_enter func41,ntmps41;exact ZaM
theorem GG (h:Eg N w0 w c a q Z s L)(h0:0<=s.bk)(h1:s.bk<=9223372036854775807)(hL:1<=c 13)(he:s.ep=s.bk/c 13) :
  Xb 42 #[.pointer (some ⟨q.e,20,none⟩)] w (.int .i64 s.ep):=by
 have x0:=QS h.blk 20;obtain ⟨X,hX,hN,hh,_⟩:=h.open;have H:=Za (hh.epoch hN h0 h1 hL he);clear h hh hX hN h0 h1 hL he;go_enter func42,ntmps42;exact ZaH
theorem p6 (h:Eg N w0 w c a q Z s L)(h0:0<=s.bk)(h1:s.bk<=9223372036854775806)(hL:1<=c 13) :
  Zv Zb 136 #[.pointer (some ⟨q.e,20,none⟩)] w fun e w'=>e= .returned (.bool ((s.bk+1)%c 13==0))/\Eg N w0 w' c a q Z { s with bk:=s.bk+1} L:=by
 have x0:=QS h.blk 20;obtain ⟨X,hX,hN,hh,hK,_⟩:=h.open;have H:=Za (hh.tick hX hN h0 h1 hL);have HK:=Za hK;generalize ((s.bk+1)%c 13==0)=B at*;clear h hh hX hN h0 h1 hL hK;go_enter func136,ntmps136;go_wp2_with fail;refine H.o.mono ?_;rintro e w' ⟨rfl,h2⟩;have h2:=Za (HK.o _ _ _ h2 rfl rfl);go_wp2_with fail;go_ret;exact ⟨rfl,h2.o⟩
theorem Zf4 (h:Eg N w0 w c a q Z s L){n:Nat}{v v':ZN}{x:Int}(hv:s.V[n]?=some v)(hf:Yh v')(ht:Zw s.V - v.bal+v'.bal<=18446744073709551615)(hF:Jt s.D s.P s.B (c 4))(x0:0<=x)(hx:x<=s.D - s.P - s.B) :
  Zv Zb 208 #[.pointer (some ⟨q.e,21,none⟩),.int .i64 (n:Int),.agg (Zd v'),.int .u64 x] w fun e w'=>e= .returned (.tuple #[])/\Eg N w0 w' c a q Z { s with V:=s.V.set n v',P:=s.P+x} L:=by
 have hN:=h.low;have h1:=h.box (Zd v') 68;have y0:(w.alloc (.cells (Zd v') 68)).cell? ⟨q.e,21,none⟩=some (.pointer (some ⟨a.r,0,none⟩)):=h1.blk.cell 21;have hb:Zu (w.alloc (.cells (Zd v') 68)) w.heap.size 68 (Zd v'):=Zt _ _ _;have HB:=Za hb;obtain ⟨X,hX,VV,hh,hK,_⟩:=h1.open;have H:=Za (fun m=>(hh.drewN hX m).set hX VV hv hf ht);have HK:=Za hK;have HP:Zl (∀w2 X,(∀k,8<=k->Y3 (X k))->En (N+1) w0 w2 c a X { s with V:=s.V.set n v'} L->_):=Za fun w2 X hX he=>En.pay he hX VV hF x0 hx
 have HN:=Za hN;clear h h1 hv hf ht hF x0 hx hK hh hX hN hb VV;go_enter func208,ntmps208;exact Zhr
theorem ZfZ (h:Eg N w0 w c a q Z s L){n:Nat}{v v':ZN}{x:Int}(hv:s.V[n]?=some v)(hf:Yh v')(ht:Zw s.V - v.bal+v'.bal<=18446744073709551615)(hF:Jt s.D s.P s.B (c 4))(x0:0<=x)(hx:x<=s.D - s.P - s.B) :
  Zv Zb 129 #[.pointer (some ⟨q.e,21,none⟩),.int .i64 (n:Int),.agg (Zd v'),.int .u64 x] w fun e w'=>e= .returned (.tuple #[])/\Eg N w0 w' c a q Z { s with V:=s.V.set n v',B:=s.B+x} L:=by
 have hN:=h.low;have h1:=h.box (Zd v') 68;have y0:(w.alloc (.cells (Zd v') 68)).cell? ⟨q.e,21,none⟩=some (.pointer (some ⟨a.r,0,none⟩)):=h1.blk.cell 21;have hb:Zu (w.alloc (.cells (Zd v') 68)) w.heap.size 68 (Zd v'):=Zt _ _ _;have HB:=Za hb;obtain ⟨X,hX,VV,hh,hK,_⟩:=h1.open;have H:=Za (fun m=>(hh.drewN hX m).set hX VV hv hf ht);have HK:=Za hK;have HP:Zl (∀w2 X,(∀k,8<=k->Y3 (X k))->En (N+1) w0 w2 c a X { s with V:=s.V.set n v'} L->_):=Za fun w2 X hX he=>En.burn he hX VV hF x0 hx
 have HN:=Za hN;clear h h1 hv hf ht hF x0 hx hK hh hX hN hb VV;go_enter func129,ntmps129;exact Zhr
theorem zU (h:Eg N w0 w c a q Z s L)(cl:Int) :Zv Zb 127 #[.pointer (some ⟨q.e,24,none⟩),.int .i64 cl] w fun e w'=>e= .returned (.bool (((Hz (c 1).toNat s.F s.W cl:Nat) :Int)==0))/\ ∃m,w'=w.drewN m:=by
 have x0:=QS h.blk 24;obtain ⟨X,hX,hN,hh,_⟩:=h.open;have H:=Za (hh.lfree hN cl);generalize Hz (c 1).toNat s.F s.W cl=f at*;clear h hh hX hN;go_enter func127,ntmps127;exact ZaH
theorem p8 (h:Eg N w0 w c a q Z s L){i:Int}{v:ZN}(h0:0<=v.wd)(h1:v.wd<=1099511627776)(hL:L.length<=100000) :
  Zv Zb 131 #[.pointer (some ⟨q.e,24,none⟩),.int .i64 i,.agg (Zd v)] w fun e w'=>e= .returned (.tuple #[])/\Eg N w0 w' c a q Z s (L++[(v.wd,i)]):=by
 have hN:=h.low;have h2:=h.box (Zd v) 68;have y0:(w.alloc (.cells (Zd v) 68)).cell? ⟨q.e,26,none⟩=some (.pointer (some ⟨a.u,0,none⟩)):=h2.blk.cell 26;have y1:(w.alloc (.cells (Zd v) 68)).cell? ⟨w.heap.size,5,none⟩=some (.int .i64 v.wd):=(Zt w 68 (Zd v)).cell 5;obtain ⟨X,hX,VV,hh,hK,_⟩:=h2.open;have H:=Za (fun m=>(hh.drewN hX m).put hX VV (it:=i) h0 h1 hL);have HK:=Za hK;have HN:=Za hN;generalize v.wd=t at*;clear h h2 h0 h1 hL hX VV hh hK hN;go_enter func131,ntmps131;go_upto_region 1 with (fail);generalize w.alloc (.cells (Zd v) 68)=W at*;refine GL 7 ?_;refine GM ?_;refine I1 ?_;refine XK ?_;intro _ Jq;obtain ⟨nr,Y9⟩:=Jq;subst Y9;go_wp2_with fail;refine (H.o nr).mono ?_;rintro e w2 ⟨rfl,h2⟩;have h4:=Za ((HK.o _ _ _ h2 rfl rfl).drop HN.o);clear h2 HK H y0 y1;go_wp2_with fail;go_end0;exact ⟨rfl,h4.o⟩
theorem wG (h:Eg N w0 w c a q Z s L){x:Int}(hF:Jt s.D s.P s.B (c 4))(x0:0<=x)(x1:x<=18446744073709551615)(hx:c 4 -(s.D - s.P - s.B)< x\/(x<=c 4 -(s.D - s.P - s.B)/\18446744073709551615 < s.D+x)) :
  Z3 122 #[.pointer (some ⟨q.e,21,none⟩),.int .u64 x] w (.tuple #[.int .i64 (-1),.int .i64 (if c 4 -(s.D - s.P - s.B)< x then 4 else 10)]):=by
 have y0:=QS h.blk 22;obtain ⟨X,hX,hN,hh,_⟩:=h.open;have H:Zl (Z3 168 #[.pointer (some ⟨a.l,0,none⟩),.int .u64 x] w (.int .i64 (if c 4 -(s.D - s.P - s.B)< x then 4 else 10))):=Za (by
  obtain ⟨S,hp,_⟩:=hh.part (show 1 < N by omega)
  rcases hx with hx | ⟨hx,ho⟩
  ·rw [if_pos hx]; exact (SB a.l _ _ _ _ x w hp.1 hF hx).mono fun e w' ⟨he,m,hm⟩=>⟨he,hm▸below_drewN (Zo _ _) m⟩
  ·rw [if_neg Ze]; exact (CB a.l _ _ _ _ x w hp.1 hF x0 x1 hx ho).mono fun e w' ⟨he,hb⟩=>⟨he,by first | exact hb | (obtain ⟨m,rfl⟩:=hb; exact below_drewN (Zo _ _) m)⟩)
 obtain ⟨k,hk⟩ : ∃k:Int,(if c 4 -(s.D - s.P - s.B)< x then 4 else 10)=k:=⟨_,rfl⟩;have fH:(k != 0)=true:=by rw [<-hk]; split <;> rfl
 rw [hk] at H;rw [hk];clear h hh hX hN hF x0 x1 hx hk;go_enter func122,ntmps122;go_wp2_with fail;refine H.o.mono ?_;rintro e w' ⟨rfl,hb⟩;have HB:=Za hb;clear hb H;go_wp2_with fail;go_ret2;exact ⟨rfl,HB.o⟩
theorem Zj4 (h:Eg N w0 w c a q Z s L){x:Int}(hF:Jt s.D s.P s.B (c 4))(x0:0<=x)(x1:x<=18446744073709551615)(hx:x<=c 4 -(s.D - s.P - s.B))(ho:s.D+x<=18446744073709551615)(hl:(s.V.length:Int)< c 0)(ht:Zw s.V+x<=18446744073709551615) :
  Zv Zb 122 #[.pointer (some ⟨q.e,21,none⟩),.int .u64 x] w fun e w'=>e= .returned (.tuple #[.int .i64 s.V.length,.int .i64 0])/\Eg N w0 w' c a q Z { s with V:=s.V++[Fu x],D:=s.D+x} L:=by
 have y0:=QS h.blk 22;obtain ⟨X,hX,hN,hh,hK,_⟩:=h.open;have H:=Za (hh.deposit hX hN hF x0 hx ho);have HK:=Za hK;have Bo:Yh (Fu x):=(rT (e:=0) x0 x1).fit;have HP:Zl (∀w2 X,(∀k,8<=k->Y3 (X k))->En N w0 w2 c a X { s with D:=s.D+x} L->_):=Za fun w2 X hX he=>En.add he hX hN Bo hl (by show Zw s.V+x<=_; exact ht)
 obtain ⟨m,hm⟩:=ZT (s.V.length);rw [hm] at HP ⊢;clear h hh hX hN hF x0 hx ho hl ht hK Bo hm;go_enter func122,ntmps122;go_wp2_with fail;refine H.o.mono ?_;rintro e w2 ⟨rfl,h2⟩;have h3:=HK.o _ _ _ h2 rfl rfl;have y1:=QS h3.blk 21;obtain ⟨X2,hX2,hN2,hh2,WE,_⟩:=h3.open;have H2:=Za (HP.o _ _ hX2 hh2);have Pz:=Za WE;clear h2 h3 hX2 hN2 hh2 WE H HP HK y0;go_wp2_with (first | (refine UG rfl 68 _ rfl (Fu x) ZC ?_));refine H2.o.mono ?_;rintro e w3 ⟨rfl,h4⟩;have h4:=Za (Pz.o _ _ _ h4 rfl rfl);clear Pz H2;go_wp2_with fail;go_ret2;exact ⟨rfl,h4.o⟩
structure Tm (c:Nat->Int)(s:Sg) :Prop where
 b0:0<=s.bk
 b1:s.bk<=9223372036854775807
 l:1<=c 13
 q:s.ep=s.bk/c 13
theorem Inv.tm {k:Nat}(hc:GE c)(h:Inv c k s)(hk:k<=1000000) :Tm c s:=⟨h.bk0,by have:=h.bk1; omega,hc.g.len0,h.epq⟩
def Of (N:Nat)(w0:Fb)(w:Zc)(c:Nat->Int)(a:Pl)(q:Ql)(Z:Nat->Zc->(Nat->Prop)->Prop)(s:Sg)(L:List QW)(b:Nat)(o:Oq) :Prop:=
 Eg (N+2) w0 w c a q (ZG (ZG Z N (Y5 b 49 (ZX o))) (N+1) (Y5 (b+1) 53 (Z9 Dd))) s L
theorem Ds (h:Eg N w0 w c a q Z s L)(o:Oq) :Of N w0 ((w.alloc (.cells (ZX o) 49)).alloc (.cells (Z9 Dd) 53)) c a q Z s L w.heap.size o:=by
 have h2:=(h.box (ZX o) 49).box (Z9 Dd) 53;rw [show (w.alloc (.cells (ZX o) 49)).heap.size=w.heap.size+1 by simp] at h2;exact h2
variable {b:Nat} {o:Oq}
theorem Of.op (h:Of N w0 w c a q Z s L b o)(hN:11<=N) :Zu w b 49 (ZX o):=Eg.blkAt h hN Ze Ut
theorem Of.rc (h:Of N w0 w c a q Z s L b o)(hN:11<=N) :Zu w (b+1) 53 (Z9 Dd):=Eg.blkAt h (r:=N+1) Ze Ze Zq
theorem Of.done (h:Of N w0 w c a q Z s L b o)(hN:11<=N)(cs:Array Zk) :Eg N w0 (w.setRow (b+1) cs) c a q Z s L:=by
 have h2:Eg (N+2) w0 (w.setRow (b+1) cs) c a q _ s L:=Eg.setr h (r:=N+1) Ze Ze Zq (cs':=cs) (Zu.setRow (h.rc hN) cs) (Zx.setRow (S:=fun i=>i=b+1) (ZM _ _) (.inl rfl) cs);exact ((h2.less Ze).less hN).ext fun k h1 h3=>by rw [Zz Ze,Zz Ze,Zz Ze]
end
end
section
open Go Go.RowKit Go.Deep
section
variable {N:Nat} {w0:Fb} {w w' w1:Zc} {c:Nat->Int} {a:Pl} {q:Ql} {Z:Nat->Zc->(Nat->Prop)->Prop} {s s':Sg} {L L':List QW}
theorem jD (h:Eg N w0 w c a q Z s L)(t:Tm c s)(o:Oq)(k:Int) :Zv Zb 39 #[.pointer (some ⟨q.e,0,none⟩),.agg (ZX o),.int .i64 k] w fun e w'=>e= .returned (.agg (Z9 (nA o.kd k s.bk s.ep)))/\Eg N w0 w' c a q Z s L:=by
 have hN:=h.low;have hO:=Ds h o;obtain ⟨t0,t1,t2,t3⟩:=t;go_enter func39,ntmps39;go_upto_region 1 with (fail);generalize hW:(w.alloc (.cells (ZX o) 49)).alloc (.cells _ 53)=W;have eW:(w.alloc (.cells (ZX o) 49)).alloc (.cells (Z9 Dd) 53)=W:=hW;rw [eW] at hO;generalize w.heap.size=b at*;have hD:Of N w0 W.drew c a q Z s L b o:=Eg.drew hO;have H1:=Za (eV hD);have H2:=Za (GG hD t0 t1 t2 t3);have H3:=Za (fun w=>ij o k s.bk s.ep w);have HO:=Za hO;have HD:=Za hD;have HN:=Za hN;clear hW eW t0 t1 t2 t3 h hO hD hN;refine Mz (fun w'=>Zu w' b 49 (ZX o)) 11 3 [0,1,2,3,4,6,7,8] (?_) ?_
 ·exact HD.o.op HN.o
 refine JL ?_;show wpQuiet _ _ _ _ [_,_,_,_,_,_,_,_] _;refine QP 49 _ b 49 (ZX o) _ rfl rfl rfl (fun w' h=>h) underlying49 rfl BA ?_;refine X5 ?_;refine I1 ?_;refine XK ?_;generalize W.drew=V at*;refine DM ?_;refine JC #[.pointer (some ⟨q.e,20,none⟩)] call41 ((H1.o).mono ?_);rintro e w2 ⟨rfl,rfl⟩;refine ⟨_,rfl,HD.o.op HN.o,?_⟩;refine Jg (i:=9) ?_;refine Q3 ?_;refine JC #[.pointer (some ⟨q.e,20,none⟩)] call42 ((H2.o).mono ?_);rintro e w2 ⟨rfl,m,rfl⟩;refine ⟨_,rfl,HD.o.op HN.o,?_⟩;refine Jg (i:=10) ?_;refine Q3 ?_;refine JC #[.agg (ZX o),.int .i64 k,.int .i64 s.bk,.int .i64 s.ep] call37 ((H3.o (V.drewN m)).mono ?_);rintro e w3 ⟨rfl,hb⟩;have h3:Of N w0 w3 c a q Z s L b o:=Eg.below (Eg.drewN HD.o m) hb;have H4:=Za h3;refine ⟨_,rfl,h3.op HN.o,?_⟩;have HZ:=Za (h3.rc HN.o);clear h3 hb H1 H2 H3 HD HO;refine GO ?_;refine ⟨by kernel_rfl,?_⟩;refine Mh ?_;go_wp2_with (first | (refine UP (b+1) (Z9 (nA o.kd k s.bk s.ep)) 53 HZ.o Vi (Ke _) ?_));exact ZhW
theorem jB (h:Eg N w0 w c a q Z s L)(t:Tm c s)(o:Oq)(i d:Int) :Zv Zb 124 #[.pointer (some ⟨q.e,0,none⟩),.agg (ZX o),.int .i64 i,.int .i64 d] w fun e w'=>e= .returned (.agg (Z9 (R8 o.kd i d s.bk s.ep)))/\Eg N w0 w' c a q Z s L:=by
 have hN:=h.low;have hO:=Ds h o;obtain ⟨t0,t1,t2,t3⟩:=t;go_enter func124,ntmps124;go_upto_region 1 with (fail);generalize hW:(w.alloc (.cells (ZX o) 49)).alloc (.cells _ 53)=W;have eW:(w.alloc (.cells (ZX o) 49)).alloc (.cells (Z9 Dd) 53)=W:=hW;rw [eW] at hO;generalize w.heap.size=b at*;have hD:Of N w0 W.drew c a q Z s L b o:=Eg.drew hO;have H1:=Za (eV hD);have H2:=Za (GG hD t0 t1 t2 t3);have H3:=Za (fun w=>Wz o i d s.bk s.ep w);have HO:=Za hO;have HD:=Za hD;have HN:=Za hN;clear hW eW t0 t1 t2 t3 h hO hD hN;refine Mz (fun w'=>Zu w' b 49 (ZX o)) 12 3 [0,1,2,3,4,5,7,8,9] (?_) ?_
 ·exact HD.o.op HN.o
 refine JL ?_;refine oB ?_;refine QP 49 _ b 49 (ZX o) _ rfl rfl rfl (fun w' h=>h) underlying49 rfl BA ?_;refine X5 ?_;iterate 8 (go_big_quiet_step ((intros; rfl)))
 refine XK ?_;generalize W.drew=V at*;refine Mo ?_;refine JC #[.pointer (some ⟨q.e,20,none⟩)] call41 ((H1.o).mono ?_);rintro e w2 ⟨rfl,rfl⟩;refine ⟨_,rfl,HD.o.op HN.o,?_⟩;refine Jg (i:=10) ?_;refine Q3 ?_;refine JC #[.pointer (some ⟨q.e,20,none⟩)] call42 ((H2.o).mono ?_);rintro e w2 ⟨rfl,m,rfl⟩;refine ⟨_,rfl,HD.o.op HN.o,?_⟩;refine Jg (i:=11) ?_;refine Q3 ?_;refine JC #[.agg (ZX o),.int .i64 i,.int .i64 d,.int .i64 s.bk,.int .i64 s.ep] call172 ((H3.o (V.drewN m)).mono ?_);rintro e w3 ⟨rfl,hb⟩;have h3:Of N w0 w3 c a q Z s L b o:=Eg.below (Eg.drewN HD.o m) hb;have H4:=Za h3;refine ⟨_,rfl,h3.op HN.o,?_⟩;have HZ:=Za (h3.rc HN.o);clear h3 hb H1 H2 H3 HD HO;refine GO ?_;refine ⟨by kernel_rfl,?_⟩;refine Mh ?_;go_wp2_with (first | (refine UP (b+1) (Z9 (R8 o.kd i d s.bk s.ep)) 53 HZ.o Vi (Ke _) ?_));exact ZhW
end
end
section
open Go Go.RowKit Go.Deep
theorem Iw {w:Zc}{e:ZJ}{n k:Nat}{ia:Option Addr}{cp:Nat}{xs:List Zk}{u:Zk}(h:w.ownsRow 0 e 1 (.slice ia n cp) n xs)(hk:xs[k]?=some u) : ∃g,ia=some ⟨g,0,none⟩/\w.cell? ⟨g,k,none⟩=some u:=by
 have hl:=(Zj.1 hk).1;have h0:=h.1
 rcases h.2 with ⟨h1,h2⟩ | ⟨g,GP,cur,h1,_⟩
 ·rw [h2] at h0; omega
 ·injection h1 with h1 _ _;refine ⟨g,h1,?_⟩;subst h1;have:=h.cells rfl k u hk;rwa [add_plain,ZV] at this
theorem SG (ev:Int) : ∀(A B:List Int) (V:List ZN),OP ev V (A++B)=OP ev (OP ev V A) B
 | [],_,_=>rfl
 | i::A,B,V=>SG ev A B _
theorem qj {ev:Int}{V:List ZN}{I:List Int}{k:Nat}{i:Int}(hk:I[k]?=some i) :OP ev V (I.take (k+1))=(OP ev V (I.take k)).set i.toNat (M8 ev (Vq (OP ev V (I.take k)) i)):=by
 rw [Xs,hk,QL,SG]; rfl
theorem SH {ev:Int}{v:ZN}(h:Yh v) :Yh (M8 ev v):=⟨h.1,Iq _ _⟩
theorem nS {V:List ZN}{n:Nat}{u v:ZN}(hv:V[n]?=some u)(h:v.bal=u.bal) :Zw (V.set n v)=Zw V:=by rw [JK hv,h]; omega
def Fa (V W:List ZN) :Prop:=W.length=V.length/\Zw W=Zw V/\ ∀v ∈ W,Yh v
theorem Fa.refl {V:List ZN}(h: ∀v ∈ V,Yh v) :Fa V V:=⟨rfl,rfl,h⟩
theorem Fa.set {V W:List ZN}{n:Nat}{u v:ZN}(h:Fa V W)(hv:W[n]?=some u)(hb:v.bal=u.bal)(hf:Yh v) :Fa V (W.set n v):=
 ⟨by rw [Xj,h.1],by rw [nS hv hb,h.2.1],J9 h.2.2 hf⟩
theorem bh {ev:Int} : ∀(I:List Int) (V:List ZN),(∀v ∈ V,Yh v)->(∀i ∈ I,∃n:Nat,i=(n:Int)/\n < V.length)->Fa V (OP ev V I)
 | [],V,h,_=>Fa.refl h
 | i::I,V,h,hI=>by
  obtain ⟨n,rfl,hn⟩:=hI i ZE;have hv:V[n]?=some (Vq V (n:Int)):=by
   unfold Vq; rw [YT,Zm,Zg hn]; rfl
  have h1:Fa V (V.set n (M8 ev (Vq V n))):=(Fa.refl h).set hv rfl (SH (h _ (Xi hv)));have h2:=bh (ev:=ev) I (V.set n (M8 ev (Vq V n))) h1.2.2 (fun j hj=>by
   obtain ⟨m,e,hm⟩:=hI j LS;exact ⟨m,e,by rw [Xj]; exact hm⟩)
  exact ⟨h2.1.trans h1.1,h2.2.1.trans h1.2.1,h2.2.2⟩
section
variable {N:Nat} {w0:Fb} {w w' w1:Zc} {c:Nat->Int} {a:Pl} {q:Ql} {Z:Nat->Zc->(Nat->Prop)->Prop} {s s':Sg} {L L':List QW}
theorem ko (w:Zc)(v:ZN) :(w.alloc (.cells (Zd ZS) 68)).setRow w.heap.size (Zd v)=w.alloc (.cells (Zd v) 68):=Zr _ _ _ _
theorem zV (h:Eg N w0 w c a q Z s L){r:Nat}(UT:11<=r)(hr:r < N){I:List Int}{v:Zk}(hx:Z r=YI 3 1 v I.length (I.map (ZI .i64))){ev:Int}(hev:(YJ .i64 ev).wf=true)
  (hI: ∀i ∈ I,∃n:Nat,i=(n:Int)/\n < s.V.length) (hf: ∀v ∈ s.V,Yh v) (ht:Zw s.V<=18446744073709551615) (hl:I.length<=100000) :
  Zv Zb 203 #[.pointer (some ⟨q.e,21,none⟩),.int .i64 ev,v] w fun e w'=>e= .returned (.tuple #[])/\Eg N w0 w' c a q Z { s with V:=OP ev s.V I} L:=by
 have hN:=h.low;obtain ⟨ia,cp,rfl⟩:=Xy (h.row UT hr hx);obtain ⟨n,hn⟩:=ZT (I.length);have HL: ∀k,Fa s.V (OP ev s.V (I.take k)):=fun k=>bh _ _ hf fun i hi=>hI i (List.mem_of_mem_take hi)
 have HH:=Za h;have HI:=Za hI;have oV:=Za HL;have HT:=Za ht;have HX:=Za hx;have HN:=Za hn;have HNX:=Za (fun st w (hs:(YJ .i64 st).wf=true)=>cK st ev w hs hev);have HB:=Za (Zn hN (Zn UT hr));rw [hn] at hl ⊢;clear h hI hf ht hx hn HL hev hN UT hr;go_enter func203,ntmps203;go_wp2_with fail;go_loopw [12] (fun s12 wr=> ∃(k:Nat),k<=n/\s12= .int .i64 k/\Zl (Eg N w0 wr c a q Z { s with V:=OP ev s.V (I.take k)} L)) (fun s12 _=>n -(intOf s12).toNat)
 case atStart=>exact ⟨0,by omega,rfl,HH⟩
 case round=>
  obtain ⟨k,hk,rfl,HE⟩:=hrel
  by_cases XV:k < n
  ·obtain ⟨i,hi⟩ : ∃i,I[k]?=some i:=⟨_,Zg IS⟩;obtain ⟨m,rfl,hm⟩:=HI.o i (List.mem_of_getElem? hi);obtain ⟨g,rfl,hc⟩:=Iw (HE.o.row HB.o.2.1 HB.o.2.2 HX.o) (show (I.map (ZI .i64))[k]?=some (.int .i64 (m:Int)) by rw [ZH,hi]; rfl);obtain ⟨W,hW⟩:=ZT (OP ev s.V (I.take k));have NG:=oV.o k;have DU:=qj (ev:=ev) (V:=s.V) hi;rw [hW] at HE NG DU;obtain ⟨u,hu⟩:=ZT (Vq W (m:Int));have jW:W[m]?=some u:=by
    rw [<-hu]; unfold Vq; rw [YT,Zm,Zg (by rw [NG.1]; exact hm)]; rfl
   rw [hu,YT] at DU;have ed:Yh u:=NG.2.2 u (Xi jW);have y0:=QS HE.o.blk 21;have HG:Zl (Z3 126 #[.pointer (some ⟨a.r,0,none⟩),.int .i64 (m:Int)] wr (.tuple #[.agg (Zd u),.bool true])):=Za (by
    obtain ⟨X,hX,VV,hh,_⟩:=HE.o.open;exact hh.get_in VV jW)
   have HU:=Za (Zn jW (Zn ed (Zn NG DU)));have HNu:=Za (fun w=>HNX.o u.st w ed.2);clear hi hm hW NG DU hu jW ed;go_wp2_with fail;refine HG.o.mono ?_;rintro e w2 ⟨rfl,hb⟩;have E2:=HE.o.below hb;have E3:=Za (E2.box (Zd u) 68);have y1:(w2.alloc (.cells (Zd u) 68)).cell? ⟨w2.heap.size,1,none⟩=some (.int .i64 u.st):=(Zt w2 68 (Zd u)).cell 1;have z1:(w2.alloc (.cells (Zd u) 68)).frozen? ⟨w2.heap.size,1,none⟩=false:=(Zt w2 68 (Zd u)).frozen 1;clear hb E2 HG HE;go_wp2_with (first | (refine UP w2.heap.size (Zd u) 68 (ZA w2 _) Yb (Ys _) ?_; rw [Zr]));refine (HNu.o _).mono ?_;rintro e w3 ⟨rfl,hb⟩;have E4:=E3.o.below hb;have y2:w3.cell? ⟨w2.heap.size,1,none⟩=some (.int .i64 u.st):=(hb.cell (p:=⟨w2.heap.size,1,none⟩) ZE).trans y1;have z2:w3.frozen? ⟨w2.heap.size,1,none⟩=false:=(Zu.below (Zt w2 68 (Zd u)) hb ZE).frozen 1;have E5:=E4.setc (r:=N) HB.o.1 Ze Zq 1 (.int .i64 (Jk u.st ev));rw [show (Zd u).setIfInBounds 1 (.int .i64 (Jk u.st ev))=Zd (M8 ev u) from rfl,Xx] at E5;generalize w2.heap.size=zb at*;have hB5:=E5.blkAt (r:=N) HB.o.1 Ze Zq;have y3:(w3.setCell ⟨zb,1,none⟩ (.int .i64 (Jk u.st ev))).cell? ⟨q.e,21,none⟩=some (.pointer (some ⟨a.r,0,none⟩)):=E5.blk.cell 21;have H5:=Za E5;have zx:=Za hB5;clear hb E3 E4 E5 hB5 y1 z1 HNu;go_wp2_with fail;clear y2 z2;generalize w3.setCell ⟨zb,1,none⟩ (.int .i64 (Jk u.st ev))=W5 at*;refine GL 6 ?_;refine GM ?_;refine Pv ?_;refine QP 68 _ zb 68 (Zd (M8 ev u)) _ rfl rfl rfl (fun w' h=>by obtain ⟨m,rfl⟩:=h; exact zx.o) underlying68 rfl Yb ?_;refine X5 ?_;refine XK ?_;intro _ Jq;obtain ⟨nr,Y9⟩:=Jq;subst Y9;obtain ⟨X,hX,VV,hh,hK,_⟩:=H5.o.open;have hS:=(hh.drewN hX nr).set hX VV (v':=M8 ev u) HU.o.1 (SH HU.o.2.1) (by
    show Zw W - u.bal+u.bal<=_;have h1:=HU.o.2.2.1.2.1;have h2:=HT.o;omega)
   have HS:=Za hS;have HK:=Za hK;clear hX VV hh hK hS H5 zx;go_wp2_with fail;refine HS.o.mono ?_;rintro e w6 ⟨rfl,h6⟩;have h7:=(HK.o _ _ _ h6 rfl rfl).drop HB.o.1;have H7:Zl (Eg N w0 w6 c a q Z { s with V:=OP ev s.V (I.take (k+1))} L):=Za (by rw [HU.o.2.2.2]; exact h7);clear h6 h7 HS HK HU y0 y3;go_wp2_with fail;go_roundw
   case rel=>exact ⟨k+1,by omega,by go_num,H7⟩
   case measure=>exact VL
  ·obtain rfl:k=n:=Ze;clear XV;have XV: ¬k < k:=Ze;have H7:Zl (Eg N w0 wr c a q Z { s with V:=OP ev s.V I} L):=Za (by
    have:=HE.o;rwa [Yp (by rw [HN.o]; exact Zh _)] at this)
   exact kV
end
end
section
open Go Go.RowKit Go.Deep
def LL (i:Nat) :Zk:= .int .i64 (i:Int)
section
variable {N:Nat} {w0:Fb} {w w' w1:Zc} {c:Nat->Int} {a:Pl} {q:Ql} {Z:Nat->Zc->(Nat->Prop)->Prop} {s s':Sg} {L L':List QW}
theorem zY (h:Eg N w0 w c a q Z s L){st:Int}(GR:(YJ .i64 st).wf=true)(hl:s.V.length<=100000) :
  Zv Zb 233 #[.pointer (some ⟨q.e,21,none⟩),.int .i64 st] w fun e w'=> ∃v,e= .returned v/\Eg (N+1) w0 w' c a q (ZG Z N (YI 3 1 v (LM s.V st s.V.length).length ((LM s.V st s.V.length).map LL))) s L/\w.heap.size<=w'.heap.size:=by
 have hN:=h.low;obtain ⟨i0,MH,BK,By,Nb⟩:=Bg;have H0:=Za (h.nil 3 1);obtain ⟨n,hn⟩:=ZT (s.V.length);obtain ⟨ct,hct⟩ : ∃ct:Nat,(LM s.V st n).length=ct:=⟨_,rfl⟩;have qU:Y8 s.V st=(ct:Int):=by rw [<-hct,<-hn]; exact (zl s.V st).symm
 have HW:=Za (Zn hn (Zn hct qU));have HN:=Za hN;have HS:=Za GR;rw [hn] at hl ⊢;rw [hct];clear h GR hn hct qU hN;go_enter func233,ntmps233;go_wp2_with fail;go_loopw [5,6] (fun s5 s6 wr=> ∃(k qn:Nat) (a1:Option Addr) (c1:Nat),k<=n/\qn<=k/\qn<=ct/\s5= .slice a1 qn c1/\s6= .int .i64 k/\Zl ((LM s.V st k).length=qn/\Eg (N+1) w0 wr c a q (ZG Z N (YI 3 1 (.slice a1 qn c1) qn ((LM s.V st k).map LL))) s L)/\Zl (w.heap.size<=wr.heap.size)) (fun _ s6 _=>n -(intOf s6).toNat)
 case atStart=>exact ⟨0,0,none,0,by omega,by omega,by omega,rfl,rfl,Za ⟨rfl,H0.o⟩,Za (Zh _)⟩
 case round=>
  obtain ⟨k,qn,a1,c1,hk,hqk,hqc,rfl,rfl,HE,HZ⟩:=hrel;have y0:=QS HE.o.2.blk 21;have HC:Zl (YV 261 #[.pointer (some ⟨a.r,0,none⟩),.int .i64 st] wr (.int .i64 (ct:Int))):=Za (by
   obtain ⟨X,hX,VV,hh,_⟩:=HE.o.2.open;have:=hh.count VV HS.o;rw [HW.o.2.2] at this;exact this)
  by_cases hq:qn < ct
  ·have Hd:k < n:=by
    rcases YF k n with h | h
    ·exact h
    ·have h1:=HE.o.1;rw [show k=n by omega,HW.o.2.1] at h1;omega
   obtain ⟨u,hu⟩:=ZT (s.V.getD k ZS);have jW:s.V[k]?=some u:=by
    rw [<-hu,Zm,Zg (by rw [HW.o.1]; exact Hd)]; rfl
   have HG:Zl (Z3 126 #[.pointer (some ⟨a.r,0,none⟩),.int .i64 (k:Int)] wr (.tuple #[.agg (Zd u),.bool true])):=Za (by
    obtain ⟨X,hX,VV,hh,_⟩:=HE.o.2.open;exact hh.get_in VV jW)
   have DU:=T9 s.V st k;rw [hu] at DU;have dZ:=Za DU;clear hu jW DU;go_wp2_with fail;refine HC.o.mono ?_;rintro e w2 ⟨rfl,rfl⟩;go_wp2_with fail;refine HG.o.mono ?_;rintro e w2 ⟨rfl,hb⟩;have GN:Zp wr.heap.size wr (w2.alloc (.cells (Zd u) 68)):=hb.alloc hb.size _;have E3:=Za (HE.o.2.below GN);have L3:=Za (Zn HE.o.1 (ZY HZ.o GN.size));have y1:(w2.alloc (.cells (Zd u) 68)).cell? ⟨w2.heap.size,1,none⟩=some (.int .i64 u.st):=(Zt w2 68 (Zd u)).cell 1;clear hb GN HG HE HC y0 HZ
   by_cases hs:u.st=st
   ·have d:(u.st==st)=true:=by simp [hs]
    rw [if_pos hs] at dZ;rw [hs] at y1 d;clear hs;go_wp2_with (first | (refine UP w2.heap.size (Zd u) 68 (ZA w2 _) Yb (Ys _) ?_; rw [Zr]) | (at_builtin; refine Eg.grow E3.o HN.o (Nat.lt_succ_self N) Zq rfl _ _ 24 rfl i0 (.int .i64 0) 8 underlying24 MH BK By Nb rfl YW rfl 1 #[.int .i64 (k:Int)] 3 _ ZE rfl rfl ?c1 ?c2 ?c3 ?_))
    case c1=>first | rfl | (intro u hu; simp at hu; subst hu; rfl)
    case c2=>unfold X8; omega
    case c3=>omega
    intro v' w4 E4 hle;obtain ⟨a2,c2,rfl⟩:=Xy (E4.row HN.o (Nat.lt_succ_self N) Zq);rw [Xx] at E4;have H4:Zl ((LM s.V st (k+1)).length=qn+1/\Eg (N+1) w0 w4 c a q (ZG Z N (YI 3 1 (.slice a2 (qn+1) c2) (qn+1) ((LM s.V st (k+1)).map LL))) s L):=Za ⟨by rw [dZ.o,ZF,L3.o.1]; rfl,by rw [dZ.o,Xv]; exact E4⟩;have HL4:Zl (w.heap.size<=w4.heap.size):=Za (ZY L3.o.2 (by simpa using hle));clear E4 hle E3 L3 dZ y1 d;go_wp2_with fail;go_roundw
    case rel=>exact ⟨k+1,qn+1,a2,c2,by omega,by omega,by omega,rfl,by go_num,H4,HL4⟩
    case measure=>exact VL
   ·have d:(u.st==st)=false:=by simp [hs]
    rw [if_neg hs] at dZ;clear hs;have H4:Zl ((LM s.V st (k+1)).length=qn/\Eg (N+1) w0 (w2.alloc (.cells (Zd u) 68)) c a q (ZG Z N (YI 3 1 (.slice a1 qn c1) qn ((LM s.V st (k+1)).map LL))) s L):=Za ⟨by rw [dZ.o,L3.o.1],by rw [dZ.o]; exact E3.o⟩;have HL4:Zl (w.heap.size<=(w2.alloc (.cells (Zd u) 68)).heap.size):=Za L3.o.2;clear E3 L3 dZ;go_wp2_with (first | (refine UP w2.heap.size (Zd u) 68 (ZA w2 _) Yb (Ys _) ?_; rw [Zr]));go_roundw
    case rel=>exact ⟨k+1,qn,a1,c1,by omega,by omega,by omega,rfl,by go_num,H4,HL4⟩
    case measure=>exact VL
  ·obtain rfl:qn=ct:=Ze;have H4:Zl (Eg (N+1) w0 wr c a q (ZG Z N (YI 3 1 (.slice a1 qn c1) qn ((LM s.V st n).map LL))) s L):=Za (by
    have h1:=tz (V:=s.V) (st:=st) (n:=k) (by rw [HW.o.1]; exact hk) (by rw [HW.o.1,HW.o.2.1,HE.o.1]);rw [HW.o.1] at h1;rw [<-h1];exact HE.o.2)
   clear HE;go_wp2_with fail;refine HC.o.mono ?_;rintro e w2 ⟨rfl,rfl⟩;go_wp2_with fail;go_ret;exact ⟨_,rfl,H4.o,HZ.o⟩
end
end
section
open Go Go.RowKit Go.Deep
def Ej (x:Int) :Zk:= .int .u64 x
theorem pw {V:List ZN}{k:Nat}{u:ZN}(h:V[k]?=some u) :((QN V).map Ej)[k]?=some (.int .u64 u.bal):=by
 unfold QN; rw [List.map_map,ZH,h]; rfl
theorem Ez (V:List ZN) :((QN V).map Ej).length=V.length:=by simp [QN]
section
variable {N:Nat} {w0:Fb} {w w' w1:Zc} {c:Nat->Int} {a:Pl} {q:Ql} {Z:Nat->Zc->(Nat->Prop)->Prop} {s s':Sg} {L L':List QW}
theorem zT (h:Eg N w0 w c a q Z s L)(hl:s.V.length<=100000) :
  Zv Zb 201 #[.pointer (some ⟨q.e,21,none⟩)] w fun e w'=> ∃v,e= .returned v/\Eg (N+1) w0 w' c a q (ZG Z N (YI 23 1 v s.V.length ((QN s.V).map Ej))) s L/\w.heap.size<=w'.heap.size:=by
 have hN:=h.low;have y0:=QS h.blk 21;obtain ⟨n,hn⟩:=ZT (s.V.length);have Eu:=EM n Ze w;have H0:Zl (Eg (N+1) w0 (w.alloc (.cells (VO (ZP n 0)) 23)) c a q (ZG Z N (Y5 w.heap.size 23 (J6 ((QN s.V).map Ej) (.int .u64 0) 0).toArray)) s L):=Za (by
  have:=h.box (VO (ZP n 0)) 23;rw [show (J6 ((QN s.V).map Ej) (.int .u64 0) 0).toArray=VO (ZP n 0) by rw [MD,Ez,hn]; simp [VO]];exact this)
 have HG:Zl (YV 120 #[.pointer (some ⟨a.r,0,none⟩)] w (.int .i64 (n:Int))):=Za (by
  obtain ⟨X,hX,VV,hh,_⟩:=h.open;have:=hh.len VV;rwa [hn] at this)
 have HN:=Za hN;have HV:=Za hn;have oG:Zl (w.heap.size<=(w.alloc (.cells (VO (ZP n 0)) 23)).heap.size):=Za ZE;rw [hn] at hl ⊢;clear h hn hN;go_enter func201,ntmps201;go_wp2_with fail;refine HG.o.mono ?_;rintro e w2 ⟨rfl,rfl⟩;clear HG;go_wp2_with fail;clear Eu;generalize hz:w.heap.size=z at*;have HZZ:=Za hz;clear hz;generalize w.alloc (.cells (VO (ZP n 0)) 23)=W at*;clear y0;go_loopw [15] (fun s15 wr=> ∃(k:Nat),k<=n/\s15= .int .i64 k/\Zl (Eg (N+1) w0 wr c a q (ZG Z N (Y5 z 23 (J6 ((QN s.V).map Ej) (.int .u64 0) k).toArray)) s L)/\Zl (z<=wr.heap.size)) (fun s15 _=>n -(intOf s15).toNat)
 case atStart=>exact ⟨0,by omega,rfl,H0,oG⟩
 case round=>
  obtain ⟨k,hk,rfl,HE,HZ⟩:=hrel
  by_cases XV:k < n
  ·obtain ⟨u,hu⟩ : ∃u,s.V[k]?=some u:=⟨_,Zg (by rw [HV.o]; exact XV)⟩;have y0:=QS HE.o.blk 21;have HG:Zl (Z3 126 #[.pointer (some ⟨a.r,0,none⟩),.int .i64 (k:Int)] wr (.tuple #[.agg (Zd u),.bool true])):=Za (by
    obtain ⟨X,hX,VV,hh,_⟩:=HE.o.open;exact hh.get_in VV hu)
   have HS:Zl (((J6 ((QN s.V).map Ej) (.int .u64 0) k).toArray.setIfInBounds k (.int .u64 u.bal))=(J6 ((QN s.V).map Ej) (.int .u64 0) (k+1)).toArray/\(J6 ((QN s.V).map Ej) (.int .u64 0) k).length=n):=Za ⟨by
    rw [List.setIfInBounds_toArray,mi (pw hu)],by rw [OS (by rw [Ez,HV.o]; exact hk),Ez,HV.o]⟩
   clear hu;go_wp2_with fail;refine HG.o.mono ?_;rintro e w2 ⟨rfl,hb⟩;have GN:Zp wr.heap.size wr (w2.alloc (.cells (Zd u) 68)):=hb.alloc hb.size _;have E3:=HE.o.below GN;have y1:(w2.alloc (.cells (Zd u) 68)).cell? ⟨w2.heap.size,0,none⟩=some (.int .u64 u.bal):=(Zt w2 68 (Zd u)).cell 0;have hB:=E3.blkAt (r:=N) HN.o Ze Zq;obtain ⟨uu,hc⟩ : ∃uu,(w2.alloc (.cells (Zd u) 68)).cell? ⟨z,k,none⟩=some uu:=⟨_,(hB.cell k).trans (by rw [Xe,Zg (by rw [HS.o.2]; exact XV)])⟩;have hfz:(w2.alloc (.cells (Zd u) 68)).frozen? ⟨z,k,none⟩=false:=hB.frozen k;have H4:Zl (Eg (N+1) w0 ((w2.alloc (.cells (Zd u) 68)).setCell ⟨z,k,none⟩ (.int .u64 u.bal)) c a q (ZG Z N (Y5 z 23 (J6 ((QN s.V).map Ej) (.int .u64 0) (k+1)).toArray)) s L):=Za (by
    have h4:=E3.setc (r:=N) HN.o Ze Zq k (.int .u64 u.bal);rwa [HS.o.1,Xx] at h4)
   have HZ4:Zl (z<=((w2.alloc (.cells (Zd u) 68)).setCell ⟨z,k,none⟩ (.int .u64 u.bal)).heap.size):=Za (by have:=HZ.o; have:=GN.size; simp at this ⊢; omega);clear hb GN E3 hB HS HG HE y0;go_wp2_with (first | (refine UP w2.heap.size (Zd u) 68 (ZA w2 _) Yb (Ys _) ?_; rw [Zr]));exact ZaN
  ·obtain rfl:k=n:=Ze;clear XV;have XV: ¬k < k:=Ze;have H7:Zl (Eg (N+1) w0 wr c a q (ZG Z N (YI 23 1 (.slice (some ⟨z,0,none⟩) k k) k ((QN s.V).map Ej))) s L):=Za (by
    have h1:=HE.o;rw [show k=((QN s.V).map Ej).length by rw [Ez,HV.o],OR] at h1;have h2:=h1.torow (r:=N) (k:=1) (n:=k) HN.o Ze Zq (by rw [Ez,HV.o,Nat.mul_one]) GU;rwa [Xx] at h2)
   exact tP
end
end
end Go.Proofs.YtobgbcdgffgdhaaGreat
