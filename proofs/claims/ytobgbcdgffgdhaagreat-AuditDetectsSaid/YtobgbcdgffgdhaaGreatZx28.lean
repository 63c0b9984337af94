/- Part 28 of 34: Pts En En2 Eg Mk Qs Go1 Go2 Go3 Go4 Go5. -/
import Derived.Test.YtobgbcdgffgdhaaGreatZx00
import Derived.Test.YtobgbcdgffgdhaaGreatZx12
import Derived.Test.YtobgbcdgffgdhaaGreatZx22
import Derived.Test.YtobgbcdgffgdhaaGreatZx27
namespace Go.Proofs.YtobgbcdgffgdhaaGreat
set_option linter.unusedVariables false
set_option linter.unusedSimpArgs false
set_option maxRecDepth 100000
set_option maxHeartbeats 8000000
open _root_.And renaming intro -> Zm
open _root_.Array renaming all_eq_true_iff_forall_mem -> ZQ, getElem?_eq_some_iff -> Yj
open _root_.Go.RowKit renaming Below -> Zp
open _root_.Go.RowKit.Below renaming refl -> Zn
open _root_.Go.Proofs.YtobgbcdgffgdhaaGreat.Zu renaming new -> Zs
open _root_.Go renaming Calls -> Zv, TypeId -> ZL, Value -> Zl, World -> Zc, heap_alloc_new -> ZB, maxLen -> XL
open _root_.Iff renaming rfl -> VD
open _root_.Go.Instr renaming makeSlice -> Ui
open _root_.Int renaming toNat_natCast -> Y7
open _root_.Go.Proofs.YtobgbcdgffgdhaaGreat.ZA renaming of_below -> Y9, of_grown -> XF, refl -> ZS
open _root_.List renaming eq_nil_of_length_eq_zero -> ZO, getD_eq_getElem?_getD -> Zo, getElem?_eq_getElem -> Zg, getElem?_eq_some_iff -> Zk, getElem?_map -> ZM, getElem?_toArray -> XG, length_append -> ZI, length_set -> Xb, length_take -> Xl, map_append -> Xv, map_replicate -> Bc, range_succ -> Kh, replicate -> ZD, take_add_one -> Y8, take_of_length_le -> ZV
open _root_.Go.Lit renaming int -> YN
open _root_.Nat renaming le_refl -> Zh, le_trans -> ZZ, lt_or_ge -> YI, min_eq_left -> GU, zero_add -> ZW, zero_le -> XY
open _root_.Option.some renaming inj -> ZP
open _root_.Option renaming toList_some -> QA
open _root_.Go.Proofs.Tryz renaming prog -> Zb
open _root_.Go.Value renaming int -> ZG, ownBlock -> YZ, slice -> Ys
open _root_.Go.World renaming setRow_alloc_new -> Zq
open Go.Proofs.Tryz
theorem P6 {G:Prop}(h:G:=by simpa using hv) :G:=h
theorem Uv {G:Prop}(h:G:=by rw [Zy Zd,Zr]) :G:=h
theorem Jk {G H:Prop} (k:H) (h:Dq H->G:=by
  intro zk;try simp only [qA]
  exact zk.o) :G:=h ⟨k⟩
theorem dN {G H:Prop} (k:H) (h:Dq H->G:=by
  intro zk;iterate 7 (go_big_quiet_step ((intros; rfl)))
  exact zk.o) :G:=h ⟨k⟩
theorem Zgs {G:Prop} (h:G:=by
  rcases j with _ | _ | _ | _ | _ | _ | _ | _ | j <;> first | rfl | exact absurd rfl hj) :G:=h
theorem Zl8 {G:Prop} (h:G:=by
  go_upto_region 1 with (fail);generalize w.alloc (.cells (Ze v') 68)=W at*;refine BU 6 ?_;refine BY ?_;refine Sk ?_;refine Jb 68 _ w.heap.size 68 (Ze v') _ rfl rfl rfl (fun w' h=>by obtain ⟨m,rfl⟩:=h; exact HB.o) underlying68 rfl Ya ?_;refine X7 ?_;refine Yo ?_;intro _ JG;obtain ⟨nr,Xk⟩:=JG;subst Xk;go_wp2_with fail;refine (H.o nr).mono ?_;rintro e w2 ⟨rfl,h2⟩;have h3:=HK.o _ _ _ h2 rfl rfl;have y1:=Xx h3.blk 22;obtain ⟨X2,hX2,hN2,hh2,C8,_⟩:=h3.open;have H2:=Za (HP.o _ _ hX2 hh2);have Sn:=Za C8;clear h2 h3 hX2 hN2 hh2 C8 H HP HK y0;go_wp2_with fail;refine H2.o.mono ?_;rintro e w3 ⟨rfl,h4⟩;have h4:=Za ((Sn.o _ _ _ h4 rfl rfl).drop HN.o);clear Sn H2;go_wp2_with fail;go_end0;exact ⟨rfl,h4.o⟩) :G:=h
theorem Zi3 {G:Prop} (h:G:=by
  rintro e w' ⟨rfl,h2,h3⟩;refine ⟨rfl,h.turn hX (show 1 < N by omega) (fun j hj=>?_) fun S hS=>⟨S,⟨h2,hS.2⟩,fun i hi=> .inl hi,gI h3 hS.2⟩⟩;exact Zgs) :G:=h
theorem ZmL {G:Prop} (h:G:=by
  refine U1 ?_;go_wp2_with fail;exact bodyPost_ret (results_cell_row rfl _ _ (b+1) 53 _ (0,0) _ rfl (setRow_heap _ _ _ _ _ _ HZ.o) underlying53 rfl Vs) rfl ⟨rfl,H4.o.done HN.o _⟩) :G:=h
theorem Zm3 {G:Prop} (h:G:=by
  rintro e w' ⟨rfl,h1,h2⟩;exact ⟨rfl,h'.more Vm (S':=fun i=>i=w.heap.size) ⟨h1,fun i=>Iff.rfl⟩ (fun i hi=>Nat.le_of_eq hi.symm) h2,h2⟩) :G:=h
theorem ZeL {G:Prop} (h:G:=by
  rcases g4 with g4 | g4
  ·rw [g4] at hj; exact .inl ((hS.2 j).2 hj)
  ·rw [g4] at hj; injection hj with hj; exact .inr (Nat.le_of_eq hj)) :G:=h
theorem yG {G:Prop} (h:G:=by
  rintro e w' ⟨v,rfl,h1,h2⟩;exact ⟨v,rfl,h.more hX hN Jl (BP h1) (fun i hi=>(UB h1 i hi).1) h2,h2⟩) :G:=h
theorem ZeY {G:Prop} (h:G:=by
  rw [Ad] at hK;refine hK.mono ?_;rintro e w' ⟨rfl,go',h1,h2,h3⟩;exact ⟨rfl,go',by simpa using h1,h2,h3⟩) :G:=h
theorem Ze4 {G:Prop} (h:G:=by
  go_wp2_with fail;refine H.o.mono ?_;rintro e w' ⟨rfl,m,rfl⟩;go_wp2_with fail;go_ret;exact ⟨rfl,m,rfl⟩) :G:=h
theorem Zfa {G:Prop} (h:G:=by
  go_roundw
  case rel=>exact ⟨k+1,by omega,by go_num,H4,HZ4⟩
  case measure=>simp [intOf]; omega) :G:=h
theorem Zfi {G:Prop} (h:G:=by
  rw [el,<-e2] at h2;exact h.setr GM hr hx h2 (ZA.setCells _ _ _ (ZA.refl _ _) (.inl rfl))) :G:=h
theorem yS {G:Prop} (h:G:=by
  clear HE;go_wp2_with fail;go_ret;exact ⟨_,rfl,H7.o,by rw [HZZ.o]; exact HZ.o⟩) :G:=h
theorem CE {G:Prop} (h:G:=by
  exact Zgs) :G:=h
theorem ZfK {G:Prop} (h:G:=by
  subst NW;rw [Xe] at hi;exact .inr (Nat.le_trans g2.size (hS i hi))) :G:=h
theorem ZfS {G:Prop} (h:G:=by
  obtain ⟨S,hp,_⟩:=h.part hr;rw [Js h8,hx] at hp;exact hp.1) :G:=h
theorem pk {G:Prop} (h:G:=by
  clear HE;go_wp2_with fail;go_end0;exact ⟨rfl,H7.o⟩) :G:=h
theorem zx {G:Prop} (h:G:=by
  rw [YS NW] at hi;exact g1 j Zd i hi) :G:=h
theorem pr {G:Prop} (h:G:=by
  rw [Ku,List.append_assoc];rfl) :G:=h
section
open Go Go.RowKit
structure Pl where
 c:Nat
 l:Nat
 r:Nat
 u:Nat
 k:Nat
 m:Nat
 n:Nat
 p:Nat
def DV (R E k b size c:Nat)(F:List Zl) :Zc->(Nat->Prop)->Prop:=fun w S=> ∃go,YG R E k w b go size c F/\ ∀i,S i ↔ Je b go i
def Pt (cf:Nat->Int)(a:Pl)(X:Nat->Zc->(Nat->Prop)->Prop)(s:Sg)(L:List QZ) :Nat->Zc->(Nat->Prop)->Prop
 | 0=>fun w S=>ET w a.c s.bk (cf 13)/\ ∀i,S i ↔ i=a.c
 | 1=>fun w S=>KR w a.l s.D s.P s.B (cf 4)/\ ∀i,S i ↔ i=a.l
 | 2=>fun w S=>OY w a.r S (cf 0).toNat s.V
 | 3=>fun w S=>NJ w a.u S (cf 12).toNat L
 | 4=>fun w S=>th w a.k s.cu/\ ∀i,S i ↔ i=a.k
 | 5=>fun w S=>(∃Sp T D,VK w a.m s.cy Sp T D/\Jr s.cy Sp T D)/\ ∀i,S i ↔ i=a.m
 | 6=>fun w S=>Ln w a.n S (cf 1).toNat s.F s.W
 | 7=>DV 148 3 1 a.p (cf 1).toNat s.pd.length (s.pd.map (ZG .i64))
 | k=>X k
section
variable {cf:Nat->Int} {a:Pl} {X:Nat->Zc->(Nat->Prop)->Prop} {s:Sg} {L:List QZ}
theorem Bl {R E k b size c:Nat}{F:List Zl} :Xh (DV R E k b size c F):=by
 refine ⟨fun w S h i hi=>?_,fun w w' S T h hk hT=>?_⟩
 ·obtain ⟨go,h1,h2⟩:=h;exact h1.lt i ((h2 i).1 hi)
 ·obtain ⟨go,h1,h2⟩:=h;exact ⟨go,h1.kept hk (fun i hi=>hT i ((h2 i).2 hi)),h2⟩
theorem Xu (hX: ∀k,8<=k->Xh (X k)) : ∀k,Xh (Pt cf a X s L k)
 | 0=>Dl
 | 1=>Dl
 | 2=>⟨fun w S h i hi=>h.lt i hi,fun w w' S T h hk hT=>h.kept hk hT⟩
 | 3=>⟨fun w S h i hi=>h.lt i hi,fun w w' S T h hk hT=>h.kept hk hT⟩
 | 4=>Dl
 | 5=>by
  refine ⟨fun w S h i hi=>?_,fun w w' S T h hk hT=>?_⟩
  ·obtain ⟨⟨Sp,T,D,h1,_⟩,h2⟩:=h;rw [(h2 i).1 hi]; exact h1.lt
  ·obtain ⟨⟨Sp,T',D,h1,hf⟩,h2⟩:=h;exact ⟨⟨Sp,T',D,h1.kept hk (hT _ ((h2 _).2 rfl)),hf⟩,h2⟩
 | 6=>⟨fun w S h i hi=>h.lt i hi,fun w w' S T h hk hT=>h.kept hk hT⟩
 | 7=>Bl
 | k+8=>hX (k+8) Zd
end
end
section
open Go Go.RowKit
structure FP where
 T:Nat->Prop
 w:Zc
def pJ (o:FP)(i:Nat) :Prop:=o.T i\/o.w.heap.size<=i
def En (N:Nat)(w0:FP)(w:Zc)(cf:Nat->Int)(a:Pl)(X:Nat->Zc->(Nat->Prop)->Prop)(s:Sg)(L:List QZ) :Prop:=
 ∃Φ,OL N (Pt cf a X s L) Φ w/\(∀k,k < N-> ∀i,Φ k i->pJ w0 i)/\ZA w0.T w0.w w
section
variable {N:Nat} {w0:FP} {w w':Zc} {cf:Nat->Int} {a:Pl} {X:Nat->Zc->(Nat->Prop)->Prop} {s s':Sg} {L L':List QZ}
theorem Ki {T:Nat->Prop}(hb:ZA w0.T w0.w w)(hk:ZA T w w')(hT: ∀i,T i->pJ w0 i) :ZA w0.T w0.w w':=hb.trans hk fun i h1 h2=>(hT i h2).resolve_right Zd
theorem En.below (h:En N w0 w cf a X s L)(hX: ∀k,8<=k->Xh (X k))(hb:Zp w.heap.size w w') :En N w0 w' cf a X s L:=by
 obtain ⟨Φ,F,h1,h2⟩:=h;exact ⟨Φ,F.below (fun j _=>Xu hX j) hb,h1,h2.trans (Y9 (S:=fun _=>False) hb) (fun _ _ h=>h.elim)⟩
theorem En.turn (h:En N w0 w cf a X s L)(hX: ∀k,8<=k->Xh (X k)){k:Nat}(hk:k < N)(Bv: ∀j,j≠k->Pt cf a X s' L' j=Pt cf a X s L j)
  (hn: ∀S,Pt cf a X s L k w S-> ∃S',Pt cf a X s' L' k w' S'/\(∀i,S' i->S i\/w.heap.size<=i)/\ZA S w w') :En N w0 w' cf a X s' L':=by
 obtain ⟨Φ,F,h1,h2⟩:=h;obtain ⟨S',p1,p2,p3⟩:=hn _ (F.part k hk);refine ⟨_,F.turn (fun j _=>Xu hX j) hk (fun j _ hj=>Bv j hj) (Xu hX k) p1 p2 p3,fun j hj i hi=>?_,Ki h2 p3 (h1 k hk)⟩
 by_cases FY:j=k
 ·subst FY;rw [Xe] at hi
  rcases p2 i hi with h3 | h3
  ·exact h1 j hj i h3
  ·exact .inr (ZZ h2.size h3)
 ·rw [YS FY] at hi;exact h1 j hj i hi
theorem En.part (h:En N w0 w cf a X s L){k:Nat}(hk:k < N) : ∃S,Pt cf a X s L k w S/\ ∀i,S i->pJ w0 i:=by
 obtain ⟨Φ,F,h1,_⟩:=h;exact ⟨Φ k,F.part k hk,h1 k hk⟩
theorem Hv {Φ:Nat->Nat->Prop}{S':Nat->Prop}(g1: ∀k,k < N-> ∀i,Φ k i->pJ w0 i)(g2:ZA w0.T w0.w w){k:Nat}(hk:k < N)(hS: ∀i,S' i->Φ k i\/w.heap.size<=i) : ∀j,j < N-> ∀i,D7 Φ k S' j i->pJ w0 i:=fun j hj i hi=>by
 by_cases FY:j=k
 ·subst FY;rw [Xe] at hi
  rcases hS i hi with h | h
  ·exact g1 j hj i h
  ·exact .inr (ZZ g2.size h)
 ·rw [YS FY] at hi;exact g1 j hj i hi
theorem gI {b:Nat}{S:Nat->Prop}(hg:w.grownBy w' (some b))(hS: ∀i,S i ↔ i=b) :ZA S w w':=XF hg (fun i hi=>(hS i).2 (ZP hi))
theorem En.tick (h:En N w0 w cf a X s L)(hX: ∀k,8<=k->Xh (X k))(hN:8<=N)(h0:0<=s.bk)(h1:s.bk<=9223372036854775806)(hL:1<=cf 13) :
  Zv Zb 197 #[.pointer (some ⟨a.c,0,none⟩)] w fun e w'=>e= .returned (.bool ((s.bk+1)%cf 13==0))/\En N w0 w' cf a X { s with bk:=s.bk+1} L:=by
 obtain ⟨S,hp,_⟩:=h.part (show 0 < N by omega);refine (Zdy a.c s.bk (cf 13) w h0 h1 hL hp.1).mono ?_;rintro e w' ⟨rfl,h2,h3⟩;refine ⟨rfl,h.turn hX (show 0 < N by omega) (fun j hj=>?_) fun S hS=>⟨S,⟨h2,hS.2⟩,fun i hi=> .inl hi,gI h3 hS.2⟩⟩;exact CE
theorem En.block (h:En N w0 w cf a X s L)(hN:8<=N) :Y6 91 #[.pointer (some ⟨a.c,0,none⟩)] w (.int .i64 s.bk):=by
 obtain ⟨S,hp,_⟩:=h.part (show 0 < N by omega);exact p6 a.c s.bk (cf 13) w hp.1
theorem En.epoch (h:En N w0 w cf a X s L)(hN:8<=N)(h0:0<=s.bk)(h1:s.bk<=9223372036854775807)(hL:1<=cf 13)(he:s.ep=s.bk/cf 13) :
  Xc 92 #[.pointer (some ⟨a.c,0,none⟩)] w (.int .i64 s.ep):=by
 obtain ⟨S,hp,_⟩:=h.part (show 0 < N by omega);have:=qC a.c s.bk (cf 13) w h1 hp.1;rw [Sz h0 hL,<-he] at this;exact this
theorem En.deposit (h:En N w0 w cf a X s L)(hX: ∀k,8<=k->Xh (X k))(hN:8<=N)(hF:JJ s.D s.P s.B (cf 4)){x:Int}(x0:0<=x)(hx:x<=cf 4 -(s.D - s.P - s.B))(ho:s.D+x<=18446744073709551615) :
  Zv Zb 168 #[.pointer (some ⟨a.l,0,none⟩),.int .u64 x] w fun e w'=>e= .returned (.int .i64 0)/\En N w0 w' cf a X { s with D:=s.D+x} L:=by
 obtain ⟨S,hp,_⟩:=h.part (show 1 < N by omega);refine (jU a.l s.D s.P s.B (cf 4) x w hp.1 hF x0 hx ho).mono ?_;exact Zi3
theorem En.pay (h:En N w0 w cf a X s L)(hX: ∀k,8<=k->Xh (X k))(hN:8<=N)(hF:JJ s.D s.P s.B (cf 4)){x:Int}(x0:0<=x)(hx:x<=s.D - s.P - s.B) :
  Zv Zb 247 #[.pointer (some ⟨a.l,0,none⟩),.int .u64 x] w fun e w'=>e= .returned (.int .i64 0)/\En N w0 w' cf a X { s with P:=s.P+x} L:=by
 obtain ⟨S,hp,_⟩:=h.part (show 1 < N by omega);refine (ZcP a.l s.D s.P s.B (cf 4) x w hp.1 hF x0 hx).mono ?_;exact Zi3
theorem En.burn (h:En N w0 w cf a X s L)(hX: ∀k,8<=k->Xh (X k))(hN:8<=N)(hF:JJ s.D s.P s.B (cf 4)){x:Int}(x0:0<=x)(hx:x<=s.D - s.P - s.B) :
  Zv Zb 184 #[.pointer (some ⟨a.l,0,none⟩),.int .u64 x] w fun e w'=>e= .returned (.int .i64 0)/\En N w0 w' cf a X { s with B:=s.B+x} L:=by
 obtain ⟨S,hp,_⟩:=h.part (show 1 < N by omega);refine (uy a.l s.D s.P s.B (cf 4) x w hp.1 hF x0 hx).mono ?_;exact Zi3
theorem En.set (h:En N w0 w cf a X s L)(hX: ∀k,8<=k->Xh (X k))(hN:8<=N){n:Nat}{v v':ZN}(hv:s.V[n]?=some v)(hf:Yp v')(ht:Zw s.V - v.bal+v'.bal<=18446744073709551615) :
  Zv Zb 175 #[.pointer (some ⟨a.r,0,none⟩),.int .i64 (n:Int),.agg (Ze v')] w fun e w'=>e= .returned (.int .i64 0)/\En N w0 w' cf a X { s with V:=s.V.set n v'} L:=by
 obtain ⟨S0,hp0,_⟩:=h.part (show 2 < N by omega);obtain ⟨Φ,F,g1,g2⟩:=h;have hp:=F.part 2 (show 2 < N by omega);refine (xY a.r (cf 0).toNat (Φ 2) n s.V v' w hp hf).mono ?_;rintro e w' (⟨h1,_⟩ | ⟨k,old,h1,h2,h3⟩)
 ·have:=(Zk.1 hv).1; omega
 ·obtain rfl:n=k:=Zd;rw [hv] at h2;obtain rfl:=ZP h2
  rcases h3 with ⟨_,rfl,h4,h5⟩ | ⟨h3,_⟩
  ·refine ⟨rfl,D7 Φ 2 (Φ 2),F.turn (fun j _=>Xu hX j) (show 2 < N by omega) (fun j _ hj=>?_) (Xu hX 2) h4 (fun i hi=> .inl hi) h5,fun j hj i hi=>?_,Ki g2 h5 (g1 2 Zd)⟩
   ·exact CE
   ·by_cases hj2:j=2
    ·subst hj2; rw [Xe] at hi; exact g1 2 hj i hi
    ·rw [YS hj2] at hi; exact g1 j hj i hi
  ·omega
theorem En.add (h:En N w0 w cf a X s L)(hX: ∀k,8<=k->Xh (X k))(hN:8<=N){v:ZN}(hf:Yp v)(hl:(s.V.length:Int)< cf 0)(ht:Zw s.V+v.bal<=18446744073709551615) :
  Zv Zb 169 #[.pointer (some ⟨a.r,0,none⟩),.agg (Ze v)] w fun e w'=>e= .returned (.tuple #[.int .i64 s.V.length,.int .i64 0])/\En N w0 w' cf a X { s with V:=s.V++[v]} L:=by
 obtain ⟨Φ,F,g1,g2⟩:=h;refine (tQ a.r (cf 0).toNat (Φ 2) s.V v w (F.part 2 (show 2 < N by omega)) hf).mono ?_;rintro e w' (⟨h1,_⟩ | ⟨_,h1,_⟩ | ⟨_,_,rfl,S',h3,h4,h5⟩)
 ·omega
 ·omega
 ·refine ⟨rfl,D7 Φ 2 S',F.turn (fun j _=>Xu hX j) (show 2 < N by omega) (fun j _ hj=>?_) (Xu hX 2) h3 h4 h5,Hv g1 g2 (show 2 < N by omega) h4,Ki g2 h5 (g1 2 Zd)⟩;exact CE
def YU (e:ZL)(k:Nat)(v:Zl)(n:Nat)(xs:List Zl) :Zc->(Nat->Prop)->Prop:=fun w S=>w.ownsRow 0 e k v n xs/\ ∀i,S i ↔ v.ownBlock=some i
theorem UB {base n k:Nat}{e:ZL}{v:Zl}{xs:List Zl}(h:w.ownsRow base e k v n xs) : ∀i,v.ownBlock=some i->base<=i/\i < w.heap.size:=by
 rcases h.2 with ⟨rfl,h2⟩ | ⟨g,cp,cur,rfl,h1,h3,h4,h5,h6,h7⟩
 ·intro i hi; simp [YZ] at hi
 ·intro i hi;obtain rfl:g=i:=ZP hi;exact ⟨h1,(Yj.1 h3).1⟩
theorem Jl {e:ZL}{k n:Nat}{v:Zl}{xs:List Zl} :Xh (YU e k v n xs):=
 ⟨fun w S h i hi=>(UB h.1 i ((h.2 i).1 hi)).2,fun w w' S T h hk hT=>⟨F7 h.1 hk (fun g hg=>hT g ((h.2 g).2 hg)),h.2⟩⟩
def Xm (g t:Nat)(cs:Array Zl) :Zc->(Nat->Prop)->Prop:=fun w S=>Zu w g t cs/\ ∀i,S i ↔ i=g
theorem Vm {g t:Nat}{cs:Array Zl} :Xh (Xm g t cs):=Dl
def ZK (X:Nat->Zc->(Nat->Prop)->Prop)(N:Nat)(Q:Zc->(Nat->Prop)->Prop) :Nat->Zc->(Nat->Prop)->Prop:=fun k=>if k=N then Q else X k
theorem Zr {Q:Zc->(Nat->Prop)->Prop} :ZK X N Q N=Q:=if_pos rfl
theorem mI {Q:Zc->(Nat->Prop)->Prop}(hX: ∀k,8<=k->Xh (X k))(hQ:Xh Q) : ∀k,8<=k->Xh (ZK X N Q k):=fun k hk=>by
 unfold ZK; split
 ·exact hQ
 ·exact hX k hk
theorem Js {k:Nat}(hk:8<=k) :Pt cf a X s L k=X k:=by
 obtain ⟨j,rfl⟩ : ∃j,k=j+8:=⟨k - 8,by omega⟩;rfl
theorem Fi {Q:Zc->(Nat->Prop)->Prop}(hN:8<=N) : ∀j,j < N->Pt cf a (ZK X N Q) s L j=Pt cf a X s L j:=fun j hj=>by
 rcases YI j 8 with h | h
 ·rcases j with _ | _ | _ | _ | _ | _ | _ | _ | j <;> first | rfl | omega
 ·rw [Js h,Js h];exact if_neg Zd
theorem En.more (h:En N w0 w cf a X s L)(hX: ∀k,8<=k->Xh (X k))(hN:8<=N){Q:Zc->(Nat->Prop)->Prop}(hQ:Xh Q){S':Nat->Prop}(hq:Q w' S')(hS: ∀i,S' i->w.heap.size<=i)(hb:Zp w.heap.size w w') :En (N+1) w0 w' cf a (ZK X N Q) s L:=by
 obtain ⟨Φ,F,g1,g2⟩:=h;have jw:Pt cf a (ZK X N Q) s L N w' S':=by rw [Js hN,Zr]; exact hq
 refine ⟨D7 Φ N S',F.more (P':=Pt cf a (ZK X N Q) s L) (fun j _=>Xu hX j) (Xu (mI hX hQ) N) (Fi hN) jw hS hb,fun j hj i hi=>?_,g2.trans (Y9 (S:=fun _=>False) hb) (fun _ _ h=>h.elim)⟩
 by_cases NW:j=N
 ·exact ZfK
 ·exact zx
theorem En.less (h:En (N+1) w0 w cf a X s L) :En N w0 w cf a X s L:=by
 obtain ⟨Φ,F,g1,g2⟩:=h;exact ⟨Φ,F.less fun _ _=>rfl,fun k hk=>g1 k Zd,g2⟩
theorem nF {Φ:Nat->Nat->Prop}{S':Nat->Prop}{k:Nat}{e:ZL}{kk n:Nat}{v:Zl}{xs:List Zl}(XJ: ∀j,j < N-> ∀i,Φ j i->i < w.heap.size)
  (ho:w'.ownsRow w.heap.size e kk v n xs) (hd: ∀i,S' i->i < w.heap.size\/v.ownBlock≠some i) : ∀j,j < N-> ∀i,D7 Φ k S' j i-> ¬v.ownBlock=some i:=fun j hj i hi hv=>by
 have:=(UB ho i hv).1
 by_cases FY:j=k
 ·subst FY;rw [Xe] at hi
  rcases hd i hi with h1 | h1
  ·omega
  ·exact h1 hv
 ·rw [YS FY] at hi;have:=XJ j hj i hi;omega
theorem BP {e:ZL}{base k n:Nat}{v:Zl}{xs:List Zl}(h:w.ownsRow base e k v n xs) :YU e k v n xs w (fun i=>v.ownBlock=some i):=⟨Di h (XY _),fun i=>VD⟩
theorem En.row (h:En N w0 w cf a X s L){r:Nat}(h8:8<=r)(hr:r < N){e:ZL}{kk n:Nat}{v:Zl}{xs:List Zl}(hx:X r=YU e kk v n xs) :w.ownsRow 0 e kk v n xs:=ZfS
theorem En.all (h:En N w0 w cf a X s L)(hX: ∀k,8<=k->Xh (X k))(hN:8<=N) :
  Zv Zb 43 #[.pointer (some ⟨a.r,0,none⟩)] w fun e w'=> ∃v,e= .returned v/\En (N+1) w0 w' cf a (ZK X N (YU 68 7 v s.V.length (XC s.V))) s L/\Zp w.heap.size w w':=by
 obtain ⟨S,hp,_⟩:=h.part (show 2 < N by omega);refine (Zbc a.r (cf 0).toNat S s.V w hp).mono ?_;exact yG
theorem En.put (h:En N w0 w cf a X s L)(hX: ∀k,8<=k->Xh (X k))(hN:8<=N){ep it:Int}(h0:0<=ep)(h1:ep<=1099511627776)(hL:L.length<=100000) :
  Zv Zb 185 #[.pointer (some ⟨a.u,0,none⟩),.int .i64 ep,.int .i64 it] w fun e w'=>e= .returned (.bool true)/\En N w0 w' cf a X s (L++[(ep,it)]):=by
 have h':=h;obtain ⟨Φ,F,g1,g2⟩:=h;refine (lP a.u (cf 12).toNat (Φ 3) L ep it w (F.part 3 (show 3 < N by omega)) h0 h1 hL).mono ?_;rintro e w' ⟨rfl,S',h3,h4,h5⟩;refine ⟨rfl,D7 Φ 3 S',F.turn (fun j _=>Xu hX j) (show 3 < N by omega) (fun j _ hj=>?_) (Xu hX 3) h3 h4 h5,Hv g1 g2 (show 3 < N by omega) h4,Ki g2 h5 (g1 3 Zd)⟩;exact CE
theorem En.due (h:En N w0 w cf a X s L)(hX: ∀k,8<=k->Xh (X k))(hN:8<=N){ep:Int}(h0:0<=ep)(h1:ep<=1099511627776)(hL:L.length<=100000) :
  Zv Zb 234 #[.pointer (some ⟨a.u,0,none⟩),.int .i64 ep] w fun e w'=> ∃v,e= .returned v/\En (N+1) w0 w' cf a (ZK X N (YU 3 1 v (Vr ep L).length ((Vr ep L).map (ZG .i64)))) s (GB ep L)/\w.heap.size<=w'.heap.size:=by
 obtain ⟨Φ,F,g1,g2⟩:=h;refine (ZbB a.u (cf 12).toNat (Φ 3) L ep w (F.part 3 (show 3 < N by omega)) h0 h1 hL).mono ?_;rintro e w' ⟨v,S',rfl,ho,h3,h4,h5⟩;have h4': ∀i,S' i->Φ 3 i\/w.heap.size<=i:=fun i hi=> .inl (h4 i hi)
 have F2:=F.turn (P':=Pt cf a X s (GB ep L)) (fun j _=>Xu hX j) (show 3 < N by omega) (fun j _ hj=>by rcases j with _ | _ | _ | _ | _ | _ | _ | _ | j <;> first | rfl | exact absurd rfl hj) (Xu hX 3) h3 h4' h5;have hq:Pt cf a (ZK X N (YU 3 1 v (Vr ep L).length ((Vr ep L).map (ZG .i64)))) s (GB ep L) N w' (fun i=>v.ownBlock=some i):=by rw [Js hN,Zr]; exact BP ho
 have F3:=F2.put (Fi hN) hq (fun i hi=>(UB ho i hi).2) (nF F.lt ho fun i hi=> .inl (F.lt 3 Zd i (h4 i hi)));refine ⟨v,rfl,⟨_,F3,fun j hj i hi=>?_,Ki g2 h5 (g1 3 Zd)⟩,h5.size⟩
 by_cases NW:j=N
 ·subst NW; rw [Xe] at hi; exact .inr (ZZ g2.size (UB ho i hi).1)
 ·rw [YS NW] at hi;exact Hv g1 g2 (show 3 < N by omega) h4' j Zd i hi
theorem En.ulen (h:En N w0 w cf a X s L)(hX: ∀k,8<=k->Xh (X k))(hN:8<=N)(hL:L.length<=100000) :
  Zv Zb 51 #[.pointer (some ⟨a.u,0,none⟩)] w fun e w'=>e= .returned (.int .i64 L.length)/\En N w0 w' cf a X s L/\Zp w.heap.size w w':=by
 obtain ⟨S,hp,_⟩:=h.part (show 3 < N by omega);refine (ld a.u (cf 12).toNat S L w hp hL).mono ?_;rintro e w' ⟨rfl,h2⟩;exact ⟨rfl,h.below hX h2,h2⟩
theorem p8 {S:Nat->Prop}{base n:Nat}{v:Zl}{R:List Bool}(h:w.ownsRow base 4 1 v n (R.map Value.bool))(hS: ∀i,v.ownBlock=some i-> ¬S i) : ∃b cp,v= .slice b n cp/\R.length=n/\n<=cp/\ZdN w S b R:=by
 have hl:=h.1;rw [List.length_map,Nat.mul_one] at hl
 rcases h.2 with ⟨rfl,h2⟩ | ⟨g,cp,cur,rfl,h1,h3,h4,h5,h6,h7⟩
 ·subst h2;obtain rfl:=ZO hl;exact ⟨none,0,rfl,rfl,by omega,fun h0=>by simp at h0⟩
 ·refine ⟨_,cp,rfl,hl,h4,fun h0=>⟨g,0,rfl,hS g rfl,(Yj.1 h3).1,fun j hj=>?_⟩⟩;have:=h.cells (g:=g) rfl j (.bool (R.getD j false)) dy;rwa [add_plain] at this
theorem En.lpush (h:En N w0 w cf a X s L)(hX: ∀k,8<=k->Xh (X k))(hN:8<=N)(cl x:Int) :
  Zv Zb 130 #[.pointer (some ⟨a.n,0,none⟩),.int .i64 cl,.int .i64 x] w fun e w'=>e= .returned (.int .i64 (ZbL (cf 1).toNat s.F s.W cl))/\En N w0 w' cf a X { s with F:=LH (cf 1).toNat s.F cl x,W:=LI (cf 1).toNat s.W cl x} L:=by
 obtain ⟨Φ,F,g1,g2⟩:=h;refine (xu cl x (F.part 6 (show 6 < N by omega))).mono ?_;rintro e w' ⟨rfl,S',h3,h5,h4⟩;refine ⟨rfl,D7 Φ 6 S',F.turn (fun j _=>Xu hX j) (show 6 < N by omega) (fun j _ hj=>?_) (Xu hX 6) h3 h4 h5,Hv g1 g2 (show 6 < N by omega) h4,Ki g2 h5 (g1 6 Zd)⟩;exact CE
theorem En.lall (h:En N w0 w cf a X s L)(hX: ∀k,8<=k->Xh (X k))(hN:8<=N)(cl:Int) :
  Zv Zb 46 #[.pointer (some ⟨a.n,0,none⟩),.int .i64 cl] w fun e w'=> ∃v,e= .returned v/\En (N+1) w0 w' cf a (ZK X N (YU 3 1 v (UA s.F s.W cl).length ((UA s.F s.W cl).map (ZG .i64)))) s L/\Zp w.heap.size w w':=by
 obtain ⟨S,hp,_⟩:=h.part (show 6 < N by omega);refine (jG cl hp).mono ?_;exact yG
theorem En.assign (h:En N w0 w cf a X s L)(hX: ∀k,8<=k->Xh (X k))(hN:8<=N){r:Nat}(h8:8<=r)(hr:r < N){wv:Zl}{U:List Int}{nu:Nat}{x ep:Int}(hx8:X r=YU 23 1 wv nu (U.map (ZG .u64)))(hl:U.length<=9223372036854775807)(hA:NI U)(hx:0<=x)(fU:0<=ep)(he1:ep<=1099511627776) :
  Zv Zb 235 #[.int .i64 ep,.pointer (some ⟨a.n,0,none⟩),.pointer (some ⟨a.m,0,none⟩),.int .u64 x,wv] w fun e w'=> ∃v,e= .returned v/\
   En (N+1) w0 w' cf a (ZK X N (YU 280 3 v (He (KK U) s.F s.W s.cy x).1.length (TD (ep+1) (He (KK U) s.F s.W s.cy x).1))) { s with F:=(He (KK U) s.F s.W s.cy x).2.1,W:=(He (KK U) s.F s.W s.cy x).2.2.1,cy:=FR (He (KK U) s.F s.W s.cy x)} L/\w.heap.size<=w'.heap.size:=by
 obtain ⟨Φ,F,g1,g2⟩:=h;obtain ⟨⟨Sp,T,D,hm,hf⟩,hS5⟩:=F.part 5 (show 5 < N by omega);have hap:=F.ap 6 5 Zd Zd Zd;have hn6: ¬Φ 6 a.m:=fun hi=>hap a.m hi ((hS5 a.m).2 rfl)
 have GA:=F.part r hr;rw [Js h8,hx8] at GA;obtain ⟨wa,cap,rfl,hlen,Gh,hu⟩:=Ho (S:=fun i=>i=a.m\/Φ 6 i) GA.1 (fun i hi h=>by
  have h1:=(GA.2 i).2 hi
  rcases h with rfl | h
  ·exact F.ap r 5 hr Zd Zd _ h1 ((hS5 _).2 rfl)
  ·exact F.ap r 6 hr Zd Zd i h1 h)
 subst hlen;refine (yb (F.part 6 (show 6 < N by omega)) hm hf hn6 hu hl hA hx fU he1).mono ?_;rintro e w' ⟨v,cp,rfl,hh⟩;obtain ⟨S1,T1,D1,k1,k2,k3,k4,k5,k6,k7,k8,k9⟩:=hh.o;have hT: ∀i,(i=a.m\/Φ 6 i)->Φ 6 i\/Φ 5 i:=fun i hi=>hi.elim (fun e=> .inr ((hS5 i).2 e)) .inl
 generalize GN:He (KK U) s.F s.W s.cy x=R at*;have F2:=F.turn2 (P':=Pt cf a X { s with F:=R.2.1,W:=R.2.2.1,cy:=FR R} L) (fun j _=>Xu hX j) (show 6 < N by omega) (show 5 < N by omega) Zd (fun j _ h6 h5=>by rcases j with _ | _ | _ | _ | _ | _ | _ | _ | j <;> first | rfl | exact absurd rfl h6 | exact absurd rfl h5) (Xu hX 6) (Xu hX 5) k1 (R':=Φ 5) ⟨⟨_,_,_,k4,k5⟩,hS5⟩ k2 (fun i hi=>hi) (fun i hi h5=>k3 (by rw [(hS5 i).1 h5] at hi; exact hi)) k8 hT;have hq:Pt cf a (ZK X N (YU 280 3 (.slice v R.1.length cp) R.1.length (TD (ep+1) R.1))) { s with F:=R.2.1,W:=R.2.2.1,cy:=FR R} L N w' (fun i=>(Ys v R.1.length cp).ownBlock=some i):=by rw [Js hN,Zr]; exact BP k6
 have hold: ∀j,j < N-> ∀i,D7 (D7 Φ 6 S1) 5 (Φ 5) j i-> ¬(Ys v R.1.length cp).ownBlock=some i:=fun j hj i hi hv=>by
  by_cases h5:j=5
  ·subst h5; rw [Xe] at hi;have:=(UB k6 i hv).1;have:=F.lt 5 hj i hi;omega
  ·rw [YS h5] at hi
   by_cases h6:j=6
   ·subst h6; rw [Xe] at hi; exact k7 i hv hi
   ·rw [YS h6] at hi;have:=(UB k6 i hv).1;have:=F.lt j hj i hi;omega
 have F3:=F2.put (Fi hN) hq (fun i hi=>(UB k6 i hi).2) hold;refine ⟨_,rfl,⟨_,F3,fun j hj i hi=>?_,Ki g2 k8 (fun i hi=>(hT i hi).elim (g1 6 Zd i) (g1 5 Zd i))⟩,k8.size⟩
 by_cases NW:j=N
 ·subst NW; rw [Xe] at hi; exact .inr (ZZ g2.size (UB k6 i hi).1)
 ·rw [YS NW] at hi
  by_cases h5:j=5
  ·subst h5; rw [Xe] at hi; exact g1 5 Zd i hi
  ·rw [YS h5] at hi;exact Hv g1 g2 (show 6 < N by omega) k2 j Zd i hi
theorem En.pall (h:En N w0 w cf a X s L)(hX: ∀k,8<=k->Xh (X k))(hN:8<=N) :
  Zv Zb 45 #[.pointer (some ⟨a.p,0,none⟩)] w fun e w'=>e= .returned (.slice (some ⟨w.heap.size,0,none⟩) s.pd.length s.pd.length)/\En (N+1) w0 w' cf a (ZK X N (Xm w.heap.size 3 (s.pd.map (ZG .i64)).toArray)) s L/\Zp w.heap.size w w':=by
 obtain ⟨S,⟨go,hp,_⟩,_⟩:=h.part (show 7 < N by omega);refine (AU a.p _ _ go _ w hp).mono ?_;rintro e w' ⟨rfl,h1,h2⟩;exact ⟨rfl,h.more hX hN Vm (S':=fun i=>i=w.heap.size) ⟨h1,fun i=>VD⟩ (fun i hi=>Nat.le_of_eq hi.symm) h2,h2⟩
theorem En.rcall {X':Nat->Zc->(Nat->Prop)->Prop}{w1:Zc}(h:En N w0 w cf a X s L)(hX: ∀k,8<=k->Xh (X k))(hb:Zp w.heap.size w w1){k:Nat}(hk:k < N){R E kk b size c c':Nat}{F F':List Zl}
  (hP:Pt cf a X s L k=DV R E kk b size c F) (hP':Pt cf a X' s' L k=DV R E kk b size c' F') (Bv: ∀j,j≠k->Pt cf a X' s' L j=Pt cf a X s L j) {f:FuncId} {args:Array Zl} {v:Zl}
  (hK: ∀go,(∀i,Je b go i->i < w.heap.size)->YG R E kk w1 b go size c F->Zv Zb f args w1 fun e w'=>e= .returned v/\ ∃go',YG R E kk w' b go' size c' F'/\Gv w1 go go'/\ZA (Je b go) w1 w') :
  Zv Zb f args w1 fun e w'=>e= .returned v/\En N w0 w' cf a X' s' L/\w1.heap.size<=w'.heap.size:=by
 obtain ⟨Φ,F0,g1,g2⟩:=h;have hp:=F0.part k hk;rw [hP] at hp;obtain ⟨go,hr,hS⟩:=hp;have F1:=F0.below (fun j _=>Xu hX j) hb;have g3:ZA w0.T w0.w w1:=g2.trans (Y9 (S:=fun _=>False) hb) (fun _ _ h=>h.elim);have wh:YG R E kk w1 b go size c F:=hr.kept (Y9 (S:=fun _=>False) hb) (fun _ _ h=>h);refine (hK go hr.lt wh).mono ?_;rintro e w' ⟨rfl,go',h1,h2,h3⟩;have TU:ZA (Φ k) w1 w':=h3.more fun i _ hi=>(hS i).2 hi
 have hS': ∀i,Je b go' i->Φ k i\/w1.heap.size<=i:=fun i hi=>by
  rcases hi with rfl | hi
  ·exact .inl ((hS _).2 (.inl rfl))
  ·rcases h2 i hi.symm with h4 | h4
   ·exact .inl ((hS i).2 (.inr h4.symm))
   ·exact .inr h4
 refine ⟨rfl,⟨D7 Φ k (Je b go'),F1.turn (fun j _=>Xu hX j) hk (fun j _ hj=>Bv j hj) (by rw [hP']; exact Bl) (by rw [hP']; exact ⟨go',h1,fun i=>VD⟩) hS' TU,Hv g1 g3 hk hS',Ki g3 TU (g1 k hk)⟩,h3.size⟩
theorem PS (w:Zc)(xs:Array Zl)(t:ZL)(len k:Nat)(hl:xs.size=len*k)(h1: ∀v ∈ xs.toList,v.oneCell'=true)(T:Nat->Prop)(hT: ∀i,T i->i < w.heap.size) :Src (w.alloc (.cells xs t)) T (some ⟨w.heap.size,0,none⟩) len k xs.toList:=
 ⟨by simpa using hl,h1,fun _=>⟨_,rfl,fun hf=>Nat.lt_irrefl _ (hT _ hf),fun j v hv=>by
  rw [add_plain,ZW,(Zs w t xs).cell];simpa using hv⟩⟩
theorem En.ppush (h:En N w0 w cf a X s L)(hX: ∀k,8<=k->Xh (X k))(hN:8<=N){x:Int}(hl:(s.pd.length:Int)< cf 1) :
  Zv Zb 123 #[.pointer (some ⟨a.p,0,none⟩),.slice (some ⟨w.heap.size,0,none⟩) 1 1] (w.alloc (.cells #[.int .i64 x] 3)) fun e w'=>e= .returned (.int .i64 1)/\En N w0 w' cf a X { s with pd:=s.pd++[x]} L/\(w.alloc (.cells #[.int .i64 x] 3)).heap.size<=w'.heap.size:=by
 have Ad:min 1 ((cf 1).toNat - s.pd.length)=1:=Zd;refine h.rcall (X':=X) hX ((Zn _ _).alloc (Zh _) _) (show 7 < N by omega) (c':=(s.pd++[x]).length) rfl rfl (fun j hj=>?_) fun go XJ hr=>?_
 ·exact CE
 ·have hK:=MN a.p (cf 1).toNat s.pd.length 1 1 go _ (s.pd.map (ZG .i64)) [.int .i64 x] _ hr (PS w #[.int .i64 x] _ 1 1 rfl (fun v hv=>by simp at hv; subst hv; rfl) _ XJ) Zd Zd;rw [Ad] at hK;refine hK.mono ?_;rintro e w' ⟨rfl,go',h1,h2,h3⟩;refine ⟨rfl,go',?_,h2,h3⟩;exact zC
theorem En.activate (h:En N w0 w cf a X s L)(hX: ∀k,8<=k->Xh (X k))(hN:8<=N){r:Nat}(h8:8<=r)(hr:r < N){wv:Zl}{U:List Int}{nu:Nat}{lim:Int}(hx8:X r=YU 23 1 wv nu (U.map (ZG .u64)))(hl:U.length<=9223372036854775807)(hA:NI U)(Zhp:DU lim) :
  Zv Zb 204 #[.pointer (some ⟨a.p,0,none⟩),.int .u64 lim,wv] w fun e w'=> ∃v,e= .returned v/\
   En (N+1) w0 w' cf a (ZK X N (YU 3 1 v (LC lim (s.pd.map (KK U))) ((s.pd.take (LC lim (s.pd.map (KK U)))).map (ZG .i64)))) { s with pd:=s.pd.drop (LC lim (s.pd.map (KK U)))} L/\w.heap.size<=w'.heap.size:=by
 have h':=h;obtain ⟨Φ,F,g1,g2⟩:=h;obtain ⟨go,hr7,hS7⟩:=F.part 7 (show 7 < N by omega);have GA:=F.part r hr;rw [Js h8,hx8] at GA;obtain ⟨wa,cap,rfl,hlen,Gh,hu⟩:=Ho (S:=Je a.p go) GA.1 (fun i hi h=>F.ap r 7 hr Zd Zd i ((GA.2 i).2 hi) ((hS7 i).2 h));subst hlen;have bW:=F.part 7 (show 7 < N by omega);refine (iR hr7 hu hl hA Zhp).mono ?_;rintro e w' ⟨v,rfl,h1,h2,h3⟩;have hk:ZA (Φ 7) w w':=h3.more fun i _ hi=>(hS7 i).2 hi
 generalize hbt:LC lim (s.pd.map (KK U))=B at*;have hnew:Pt cf a X { s with pd:=s.pd.drop B} L 7 w' (Φ 7):=⟨go,(by
  show YG _ _ 1 w' a.p go (cf 1).toNat (s.pd.drop _).length _;rw [List.length_drop];exact h2),hS7⟩
 have F2:=F.turn (P':=Pt cf a X { s with pd:=s.pd.drop B} L) (fun j _=>Xu hX j) (show 7 < N by omega) (fun j _ hj=>by rcases j with _ | _ | _ | _ | _ | _ | _ | _ | j <;> first | rfl | exact absurd rfl hj) (Xu hX 7) hnew (fun i hi=> .inl hi) hk;have hq:Pt cf a (ZK X N (YU 3 1 v B ((s.pd.take B).map (ZG .i64)))) { s with pd:=s.pd.drop B} L N w' (fun i=>v.ownBlock=some i):=by rw [Js hN,Zr]; exact BP h1
 have F3:=F2.put (Fi hN) hq (fun i hi=>(UB h1 i hi).2) (nF F.lt h1 fun i hi=> .inl (F.lt 7 Zd i hi));refine ⟨v,rfl,⟨_,F3,fun j hj i hi=>?_,Ki g2 hk (g1 7 Zd)⟩,h3.size⟩
 by_cases NW:j=N
 ·subst NW; rw [Xe] at hi; exact .inr (ZZ g2.size (UB h1 i hi).1)
 ·rw [YS NW] at hi;exact Hv g1 g2 (show 7 < N by omega) (fun i hi=> .inl hi) j Zd i hi
end
end
section
open Go Go.RowKit
section
variable {N:Nat} {w0:FP} {w w' w1:Zc} {cf:Nat->Int} {a:Pl} {X X':Nat->Zc->(Nat->Prop)->Prop} {s s':Sg} {L L':List QZ}
theorem En.turnX (h:En N w0 w cf a X s L)(hX: ∀k,8<=k->Xh (X k)){k:Nat}(hk:k < N)(GN:Xh (Pt cf a X' s' L' k))(Bv: ∀j,j < N->j≠k->Pt cf a X' s' L' j=Pt cf a X s L j)
  (hn: ∀S,Pt cf a X s L k w S-> ∃S',Pt cf a X' s' L' k w' S'/\(∀i,S' i->S i\/w.heap.size<=i)/\ZA S w w') :En N w0 w' cf a X' s' L':=by
 obtain ⟨Φ,F,h1,h2⟩:=h;obtain ⟨S',p1,p2,p3⟩:=hn _ (F.part k hk);exact ⟨_,F.turn (fun j _=>Xu hX j) hk Bv GN p1 p2 p3,Hv h1 h2 hk p2,Ki h2 p3 (h1 k hk)⟩
theorem XB {Q Q':Zc->(Nat->Prop)->Prop}{r:Nat} :ZK (ZK X r Q) r Q'=ZK X r Q':=by
 funext k; unfold ZK; split <;> rfl
theorem Zy {Q:Zc->(Nat->Prop)->Prop}{k r:Nat}(h:k≠r) :ZK X r Q k=X k:=if_neg h
theorem lN {Q:Zc->(Nat->Prop)->Prop}{r j:Nat}(h8:8<=r)(h:j≠r) :Pt cf a (ZK X r Q) s L j=Pt cf a X s L j:=by
 rcases YI j 8 with h1 | h1
 ·rcases j with _ | _ | _ | _ | _ | _ | _ | _ | j <;> first | rfl | omega
 ·rw [Js h1,Js h1];exact if_neg h
theorem AI {Q:Zc->(Nat->Prop)->Prop}{r:Nat}(h8:8<=r) :Pt cf a (ZK X r Q) s L r=Q:=by rw [Js h8]; exact if_pos rfl
theorem En.own (h:En N w0 w cf a X s L)(hX: ∀k,8<=k->Xh (X k)){r:Nat}(h8:8<=r)(hr:r < N){Q Q':Zc->(Nat->Prop)->Prop}(hx:X r=Q)(hQ:Xh Q')
  (hn: ∀S,Q w S-> ∃S',Q' w' S'/\(∀i,S' i->S i\/w.heap.size<=i)/\ZA S w w') :En N w0 w' cf a (ZK X r Q') s L:=by
 refine h.turnX hX hr (by rw [AI h8]; exact hQ) (fun j _ hj=>lN h8 hj) fun S hS=>?_
 rw [Js h8,hx] at hS;rw [AI h8];exact hn S hS
theorem En.drewN (h:En N w0 w cf a X s L)(hX: ∀k,8<=k->Xh (X k))(n:Nat) :En N w0 (w.drewN n) cf a X s L:=h.below hX (below_drewN (Zn _ _) n)
theorem En.box (h:En N w0 w cf a X s L)(hX: ∀k,8<=k->Xh (X k))(hN:8<=N)(cs:Array Zl)(t:ZL) :En (N+1) w0 (w.alloc (.cells cs t)) cf a (ZK X N (Xm w.heap.size t cs)) s L:=
 h.more hX hN Vm (S':=fun i=>i=w.heap.size) ⟨Zs w t cs,fun i=>VD⟩ (fun i hi=>Nat.le_of_eq hi.symm) ((Zn _ _).alloc (Zh _) _)
theorem En.blkAt (h:En N w0 w cf a X s L){r g t:Nat}{cs:Array Zl}(h8:8<=r)(hr:r < N)(hx:X r=Xm g t cs) :Zu w g t cs:=ZfS
theorem En.grow {ops:Array Oper}{rest:List Oper}{o:Oper}{c:Act}{Q:Exit->Act->Zc->Prop}(h:En N w0 w cf a X s L)(hX: ∀k,8<=k->Xh (X k)){r:Nat}(h8:8<=r)(hr:r < N){e:ZL}{size n:Nat}{v:Zl}{xs:List Zl}(hx:X r=YU e size v n xs)
  (DD:o.guard=none) (sl x:Operand) (t:ZL) (ho:o.op= .call { callee:= .builtin .append,args:= #[sl,x],argTypes:= #[t,t]}) (i:TypeInfo) (z:Zl) (bytes:Nat) (ht:Tryz.prog.underlying t=some (.slice e)) (hi:Tryz.prog.info? e=some i) (hz:i.zero=some z)
  (Mz:i.size=size) (Ns:i.bytes=bytes) (wm:z.cells.size=size) (BK:0 < size) (hs:c.eval sl=v) (m:Nat) (news:Array Zl) (te:ZL) (g:Nat) (hg:w.heap.size=g) (hx':c.eval x= .slice (some ⟨g,0,none⟩) m m) (hl:news.toList.length=m*size) (h1: ∀u ∈ news.toList,u.oneCell'=true)
  (nN:n+m<=XL) (DN:(n+m)*bytes<=140737488355328)
  (K: ∀v' w',En N w0 w' cf a (ZK X r (YU e size v' (n+m) (xs++news.toList))) s L->w.heap.size<=w'.heap.size->wpList Zb ops Q rest (c.put o.dst v') w') :wpList Zb ops Q (o::rest) c (w.alloc (.cells news te)):=by
 subst hg;have hb:Zp w.heap.size w (w.alloc (.cells news te)):=(Zn _ _).alloc (Zh _) _;have h':=h.below hX hb;refine wpList_append_own_at _ DD sl x t ho 0 e i z size bytes ht hi hz Mz Ns wm BK v n xs hs (h'.row h8 hr hx) ⟨w.heap.size,0,none⟩ m m news.toList hx' hl (fun j u hu=>?_) h1 nN DN (XY _) fun v' w' g1 g2 _ g4=>?_
 ·rw [add_plain,ZW,(Zs w te news).cell];simpa using hu
 ·refine K v' w' (h'.own hX h8 hr hx Jl fun S hS=>⟨_,BP g1,fun j hj=>?_,XF g2 fun j hj=>(hS.2 j).2 hj.symm⟩) (ZZ hb.size g2.size);exact ZeL
theorem En.nil (h:En N w0 w cf a X s L)(hX: ∀k,8<=k->Xh (X k))(hN:8<=N)(e:ZL)(k:Nat) :En (N+1) w0 w cf a (ZK X N (YU e k (.slice none 0 0) 0 [])) s L:=
 h.more hX hN Jl (S':=fun _=>False) ⟨World.ownsRow_nil _ _ _ _,fun i=>by simp [YZ]⟩ (fun _ h=>h.elim) (Zn _ _)
theorem En.turn_join (h:En N w0 w cf a X s L)(hX: ∀k,8<=k->Xh (X k))(hN:8<=N){k:Nat}(hk:k < 8)(Bv: ∀j,j≠k->Pt cf a X s' L' j=Pt cf a X s L j){Q:Zc->(Nat->Prop)->Prop}{S':Nat->Prop}(hQ:Xh Q)(hq:Q w' S')(hS: ∀i,S' i->w.heap.size<=i)
  (hn: ∀S,Pt cf a X s L k w S->(∀i,S i->i < w.heap.size)->Pt cf a X s' L' k w' S/\ZA S w w') :En (N+1) w0 w' cf a (ZK X N Q) s' L':=by
 obtain ⟨Φ,F,g1,g2⟩:=h;obtain ⟨p1,p2⟩:=hn _ (F.part k Zd) (F.lt k Zd);have F2:=F.turn (fun j _=>Xu hX j) (show k < N by omega) (fun j _ hj=>Bv j hj) (Xu hX k) p1 (fun i hi=> .inl hi) p2;have jw:Pt cf a (ZK X N Q) s' L' N w' S':=by rw [Js hN,Zr]; exact hq
 have F3:=F2.put (P':=Pt cf a (ZK X N Q) s' L') (Fi hN) jw (fun i hi=>hQ.1 w' S' hq i hi) (fun j hj i hi hv=>by
  have h1:=hS i hv
  by_cases FY:j=k
  ·subst FY;rw [Xe] at hi;have:=F.lt j hj i hi;omega
  ·rw [YS FY] at hi;have:=F.lt j hj i hi;omega)
 refine ⟨_,F3,fun j hj i hi=>?_,Ki g2 p2 (g1 k Zd)⟩
 by_cases NW:j=N
 ·exact ZfK
 ·rw [YS NW] at hi;exact Hv g1 g2 (show k < N by omega) (fun i hi=> .inl hi) j Zd i hi
def NN (i:Int) :List Zl:= [.int .i64 i]
theorem lT {b:Option Addr}{l:List Int}{S:Nat->Prop}(h:XS w S b l) : ∃S',VM NN 1 b l w S'/\ ∀i,S' i-> ¬S i:=by
 rcases Nat.eq_zero_or_pos l.length with h0 | h0
 ·rw [ZO h0];exact ⟨_,VM.nil w b,fun i hi=>hi.elim⟩
 ·obtain ⟨g,off,e,hS,hg,hc⟩:=h h0;refine ⟨fun i=>i=g,⟨fun _=>⟨g,off,e,fun hn=>hn rfl,hg,fun i v hi=>?_⟩,fun i hi=>hi▸hg⟩,fun i hi=>hi▸hS⟩;intro j u hj
  match j,hj with
  | 0,hj=>
   simp only [NN,List.getElem?_cons_zero,Option.some.injEq] at hj;subst hj;have Gi:=(Zk.1 hi).1;have:=hc i Gi;rw [Zo,hi] at this;exact DI
theorem En.sweep2 (h:En N w0 w cf a X s L)(hX: ∀k,8<=k->Xh (X k))(hN:8<=N){r:Nat}(h8:8<=r)(hr:r < N){v:Zl}{n:Nat}{R:List Bool}(hx:X r=YU 4 1 v n (R.map Value.bool)){vs p:Int}(hs:s.cu<=100)(hR:R.length<=100) :
  Zv Zb 248 #[.pointer (some ⟨a.k,0,none⟩),v,.int .i64 vs,.int .i64 p] w fun e w'=> ∃b2 cp,e= .returned (.tuple #[.slice b2 (KU R s.cu (LN R s.cu vs p)).length cp,.int .i64 (LN R s.cu vs p)])/\
   En (N+1) w0 w' cf a (ZK X N (VM NN 1 b2 (KU R s.cu (LN R s.cu vs p)))) { s with cu:=ER R.length s.cu (LN R s.cu vs p)} L/\w.heap.size<=w'.heap.size:=by
 have h':=h;obtain ⟨Φ,F,g1,g2⟩:=h;have hp:=F.part 4 (show 4 < N by omega);have GA:=F.part r hr;rw [Js h8,hx] at GA;obtain ⟨b,cap,rfl,hlen,Gh,hb⟩:=p8 (S:=fun i=>i=a.k) GA.1 (fun i hi e=>F.ap r 4 hr Zd Zd i ((GA.2 i).2 hi) ((hp.2 i).2 e));subst hlen;refine (sN a.k s.cu b cap R vs p w hp.1 hs hR hb).mono ?_;rintro e w' ⟨m,b2,cp,rfl,hm,hi,hc,hk⟩;obtain rfl:=hm.unique (TZ R s.cu vs p);obtain ⟨S',q1,q2⟩:=lT hi.o;refine ⟨b2,cp,rfl,h'.turn_join hX hN (show 4 < 8 by omega) (fun j hj=>?_) Td q1 (fun i hi=>Nat.not_lt.1 (q2 i hi)) fun S hS _=>⟨⟨hc.o,hS.2⟩,hk.more fun i _ hi=>(hS.2 i).2 hi⟩,hk.size⟩;exact CE
theorem En.remap {M:Nat}(h:En M w0 w cf a X s L)(f:Nat->Nat)(hf0: ∀k,k < 8->f k=k)(hf1: ∀k,8<=k->8<=f k)(hf: ∀k,k < N->f k < M)(kz: ∀j k,j < N->k < N->f j=f k->j=k)(hZ: ∀k,8<=k->k < N->X' k=X (f k)) :En N w0 w cf a X' s L:=by
 obtain ⟨Φ,F,g1,g2⟩:=h;refine ⟨_,F.remap f hf kz fun k hk=>?_,fun k hk=>g1 _ (hf k hk),g2⟩
 rcases YI k 8 with h1 | h1
 ·rw [hf0 k h1]
  rcases k with _ | _ | _ | _ | _ | _ | _ | _ | k <;> first | rfl | omega
 ·rw [Js h1,Js (hf1 k h1),hZ k h1 hk]
theorem En.get_in (h:En N w0 w cf a X s L)(hN:8<=N){n:Nat}{v:ZN}(hv:s.V[n]?=some v) :
  Z3 126 #[.pointer (some ⟨a.r,0,none⟩),.int .i64 (n:Int)] w (.tuple #[.agg (Ze v),.bool true]):=by
 obtain ⟨S,hp,_⟩:=h.part (show 2 < N by omega);refine (nK a.r (cf 0).toNat S n s.V w hp).mono ?_;rintro e w' ⟨hb,⟨ho,_⟩ | ⟨k,u,hk,hu,rfl⟩⟩
 ·have:=(Zk.1 hv).1; omega
 ·obtain rfl:n=k:=Zd;rw [hv] at hu;obtain rfl:=ZP hu;exact ⟨rfl,hb⟩
theorem En.get_out (h:En N w0 w cf a X s L)(hN:8<=N){i:Int}(hi:i < 0\/(s.V.length:Int)<=i) :
  Z3 126 #[.pointer (some ⟨a.r,0,none⟩),.int .i64 i] w (.tuple #[.agg (Ze ZU),.bool false]):=by
 obtain ⟨S,hp,_⟩:=h.part (show 2 < N by omega);refine (nK a.r (cf 0).toNat S i s.V w hp).mono ?_;rintro e w' ⟨hb,⟨_,rfl⟩ | ⟨k,u,rfl,hu,_⟩⟩
 ·exact ⟨rfl,hb⟩
 ·have:=(Zk.1 hu).1; omega
theorem En.count (h:En N w0 w cf a X s L)(hN:8<=N){st:Int}(hs:(YN .i64 st).wf=true) :
  Y6 261 #[.pointer (some ⟨a.r,0,none⟩),.int .i64 st] w (.int .i64 (Xj s.V st)):=by
 obtain ⟨S,hp,_⟩:=h.part (show 2 < N by omega);obtain ⟨m,b,cp,_,_,x2,_,_,_,_,hC,_⟩:=OY.cells hp;exact ql a.r m _ st w x2 hC hs
theorem En.len (h:En N w0 w cf a X s L)(hN:8<=N) :
  Y6 120 #[.pointer (some ⟨a.r,0,none⟩)] w (.int .i64 s.V.length):=by
 obtain ⟨S,hp,_⟩:=h.part (show 2 < N by omega);obtain ⟨m,b,cp,_,x1,_⟩:=OY.cells hp;exact ch a.r _ cp b w x1
theorem En.active (h:En N w0 w cf a X s L)(hN:8<=N) :
  Y6 44 #[.pointer (some ⟨a.r,0,none⟩)] w (.int .u64 (Yh s.V)):=by
 obtain ⟨S,hp,_⟩:=h.part (show 2 < N by omega);obtain ⟨m,b,cp,_,_,_,x3,_⟩:=OY.cells hp;exact jE a.r _ w x3
theorem En.at_ (h:En N w0 w cf a X s L)(hN:8<=N) :
  Y6 49 #[.pointer (some ⟨a.k,0,none⟩)] w (.int .i64 s.cu):=by
 obtain ⟨S,hp,_⟩:=h.part (show 4 < N by omega);exact ZgP a.k s.cu w hp.1
theorem En.carry (h:En N w0 w cf a X s L)(hN:8<=N) :
  Xc 50 #[.pointer (some ⟨a.m,0,none⟩)] w (.int .u64 s.cy):=by
 obtain ⟨S,⟨⟨Sp,T,D,hm,hf⟩,_⟩,_⟩:=h.part (show 5 < N by omega);exact Wv a.m _ Sp T D w hm hf
theorem En.totals (h:En N w0 w cf a X s L)(hN:8<=N) :
  Z3 40 #[.pointer (some ⟨a.l,0,none⟩)] w (.agg #[.int .u64 s.D,.int .u64 s.P,.int .u64 s.B]):=by
 obtain ⟨S,hp,_⟩:=h.part (show 1 < N by omega);exact mB a.l _ _ _ _ w hp.1
theorem En.lfree (h:En N w0 w cf a X s L)(hN:8<=N)(cl:Int) :
  Xc 177 #[.pointer (some ⟨a.n,0,none⟩),.int .i64 cl] w (.int .i64 (Mv (cf 1).toNat s.F s.W cl:Nat)):=by
 obtain ⟨S,hp,_⟩:=h.part (show 6 < N by omega);exact ve cl hp
theorem En.ahead (h:En N w0 w cf a X s L)(hX: ∀k,8<=k->Xh (X k))(hN:8<=N)(cl:Int) :
  Zv Zb 216 #[.pointer (some ⟨a.n,0,none⟩),.int .i64 cl] w fun e w'=> ∃v,e= .returned v/\En (N+1) w0 w' cf a (ZK X N (YU 3 1 v (KH s.F s.W cl).length ((KH s.F s.W cl).map (ZG .i64)))) s L/\Zp w.heap.size w w':=by
 obtain ⟨S,hp,_⟩:=h.part (show 6 < N by omega);refine (pP cl hp).mono ?_;exact yG
theorem En.pfree (h:En N w0 w cf a X s L)(hN:8<=N) :
  Xc 121 #[.pointer (some ⟨a.p,0,none⟩)] w (.int .i64 (((cf 1).toNat - s.pd.length:Nat) :Int)):=by
 obtain ⟨S,⟨go,hp,_⟩,_⟩:=h.part (show 7 < N by omega);obtain ⟨h1,_,h3⟩:=hp.size_le;exact Fj a.p _ _ w hp.cells.1 hp.cells.2 h3 h1
end
end
section
open Go Go.RowKit
structure Ql where
 d:Nat
 q:Nat
 e:Nat
def JF (l:List (Int × Int)) :List Zl:=YE Kc l
def Jp (l:List Rq) :List Zl:=YE Rq.row l
def UN (c:Nat->Int)(a:Pl)(q:Ql) :Array Zl:= #[.int .i64 (c 0),.int .i64 (c 1),.int .u64 (c 2),.int .u64 (c 3),.int .u64 (c 4),.int .u64 (c 5),.int .u64 (c 6),.int .u64 (c 7),.int .u64 (c 8),.int .u64 (c 9),.int .i64 (c 10),.int .i64 (c 11),.int .i64 (c 12),.int .i64 (c 13),.int .i64 (c 14),.int .i64 (c 15),.int .i64 (c 16),.int .i64 (c 17),.int .u64 (c 18),.int .u64 (c 19),
 .pointer (some ⟨a.c,0,none⟩),.pointer (some ⟨a.r,0,none⟩),.pointer (some ⟨a.l,0,none⟩),.pointer (some ⟨a.k,0,none⟩),.pointer (some ⟨a.n,0,none⟩),.pointer (some ⟨a.m,0,none⟩),.pointer (some ⟨a.u,0,none⟩),.pointer (some ⟨a.p,0,none⟩),.pointer (some ⟨q.d,0,none⟩),.pointer (some ⟨q.q,0,none⟩)]
def XE (c:Nat->Int)(a:Pl)(q:Ql)(mg:List (Int × Int))(pt:List Rq)(X:Nat->Zc->(Nat->Prop)->Prop) :Nat->Zc->(Nat->Prop)->Prop
 | 8=>DV 151 116 2 q.d (c 1).toNat mg.length (JF mg)
 | 9=>DV 154 119 2 q.q (c 1).toNat pt.length (Jp pt)
 | 10=>Xm q.e 102 (UN c a q)
 | k=>X k
def Eg (N:Nat)(w0:FP)(w:Zc)(c:Nat->Int)(a:Pl)(q:Ql)(Z:Nat->Zc->(Nat->Prop)->Prop)(s:Sg)(L:List QZ) :Prop:=
 ∃X,(∀k,11<=k->Xh (X k))/\(∀k,11<=k->k < N->X k=Z k)/\11<=N/\En N w0 w c a (XE c a q s.mg s.pt X) s L
section
variable {N:Nat} {w0:FP} {w w' w1:Zc} {c:Nat->Int} {a:Pl} {q:Ql} {X Z Z':Nat->Zc->(Nat->Prop)->Prop} {s s':Sg} {L L':List QZ}
theorem EL (hX: ∀k,11<=k->Xh (X k)){mg:List (Int × Int)}{pt:List Rq} : ∀k,8<=k->Xh (XE c a q mg pt X k):=fun k hk=>by
 rcases YI k 11 with h | h
 ·obtain rfl | rfl | rfl:k=8\/k=9\/k=10:=Zd
  ·exact Bl
  ·exact Bl
  ·exact Vm
 ·obtain ⟨j,rfl⟩ : ∃j,k=j+11:=⟨k - 11,by omega⟩;exact hX _ Zd
theorem Dt {mg:List (Int × Int)}{pt:List Rq}{k:Nat}(hk:11<=k) :XE c a q mg pt X k=X k:=by
 obtain ⟨j,rfl⟩ : ∃j,k=j+11:=⟨k - 11,by omega⟩;rfl
theorem Sb {mg:List (Int × Int)}{pt:List Rq}{Q:Zc->(Nat->Prop)->Prop}(hN:11<=N) :ZK (XE c a q mg pt X) N Q=XE c a q mg pt (ZK X N Q):=by
 funext k
 rcases YI k 11 with h | h
 ·have:ZK (XE c a q mg pt X) N Q k=XE c a q mg pt X k:=if_neg Zd;rw [this]
  rcases k with _ | _ | _ | _ | _ | _ | _ | _ | _ | _ | _ | k
  all_goals first | omega | rfl | skip
  all_goals exact (if_neg Zd).symm
 ·unfold ZK;rw [Dt h,Dt h]
theorem Eg.open (h:Eg N w0 w c a q Z s L) : ∃X,(∀k,8<=k->Xh (X k))/\8<=N/\En N w0 w c a X s L/\
  (∀w' s' L',En N w0 w' c a X s' L'->s'.mg=s.mg->s'.pt=s.pt->Eg N w0 w' c a q Z s' L')/\
  (∀w' s' L' Q,En (N+1) w0 w' c a (ZK X N Q) s' L'->Xh Q->s'.mg=s.mg->s'.pt=s.pt->Eg (N+1) w0 w' c a q (ZK Z N Q) s' L')/\(∀k,11<=k->k < N->X k=Z k)/\X 10=Xm q.e 102 (UN c a q):=by
 obtain ⟨X,hX,hZ,hN,h⟩:=h;refine ⟨_,EL hX,by omega,h,fun w' s' L' h' e1 e2=>⟨X,hX,hZ,hN,by rw [e1,e2]; exact h'⟩,fun w' s' L' Q h' hQ e1 e2=>⟨ZK X N Q,fun k hk=>?_,fun k h1 h2=>?_,by omega,?_⟩,fun k hk q9=>by rw [Dt hk,hZ k hk q9],rfl⟩
 ·unfold ZK; split
  ·exact hQ
  ·exact hX k hk
 ·unfold ZK; split
  ·rfl
  ·exact hZ k h1 Zd
 ·rw [e1,e2,<-Sb hN]; exact h'
theorem Eg.low (h:Eg N w0 w c a q Z s L) :11<=N:=by obtain ⟨X,_,_,hN,_⟩:=h; exact hN
theorem Eg.blk (h:Eg N w0 w c a q Z s L) :Zu w q.e 102 (UN c a q):=by
 have hN:=h.low;obtain ⟨X,hX,_,h,_,_,_,SG⟩:=h.open;exact h.blkAt (r:=10) Zd Zd SG
theorem Eg.below (h:Eg N w0 w c a q Z s L)(hb:Zp w.heap.size w w') :Eg N w0 w' c a q Z s L:=by
 obtain ⟨X,hX,_,h,k,_⟩:=h.open;exact k _ _ _ (h.below hX hb) rfl rfl
theorem Eg.drewN (h:Eg N w0 w c a q Z s L)(n:Nat) :Eg N w0 (w.drewN n) c a q Z s L:=h.below (below_drewN (Zn _ _) n)
theorem Eg.drew (h:Eg N w0 w c a q Z s L) :Eg N w0 w.drew c a q Z s L:=h.below (Zn _ _).drew
theorem Eg.ext (h:Eg N w0 w c a q Z s L)(hz: ∀k,11<=k->k < N->Z k=Z' k) :Eg N w0 w c a q Z' s L:=by
 obtain ⟨X,hX,hZ,hN,h⟩:=h;exact ⟨X,hX,fun k h1 h2=>(hZ k h1 h2).trans (hz k h1 h2),hN,h⟩
theorem Eg.less (h:Eg (N+1) w0 w c a q Z s L)(hN:11<=N) :Eg N w0 w c a q Z s L:=by
 obtain ⟨X,hX,hZ,_,h⟩:=h;exact ⟨X,hX,fun k h1 h2=>hZ k h1 Zd,hN,h.less⟩
theorem Eg.drop {Q:Zc->(Nat->Prop)->Prop}(h:Eg (N+1) w0 w c a q (ZK Z N Q) s L)(hN:11<=N) :Eg N w0 w c a q Z s L:=(h.less hN).ext fun k _ h2=>if_neg Zd
theorem Eg.box (h:Eg N w0 w c a q Z s L)(cs:Array Zl)(t:ZL) :Eg (N+1) w0 (w.alloc (.cells cs t)) c a q (ZK Z N (Xm w.heap.size t cs)) s L:=by
 obtain ⟨X,hX,hN,h,_,k,_⟩:=h.open;exact k _ _ _ _ (h.box hX hN cs t) Vm rfl rfl
theorem Eg.nil (h:Eg N w0 w c a q Z s L)(e:ZL)(k:Nat) :Eg (N+1) w0 w c a q (ZK Z N (YU e k (.slice none 0 0) 0 [])) s L:=by
 obtain ⟨X,hX,hN,h,_,kk,_⟩:=h.open;exact kk _ _ _ _ (h.nil hX hN e k) Jl rfl rfl
theorem Eg.blkAt (h:Eg N w0 w c a q Z s L){r g t:Nat}{cs:Array Zl}(GM:11<=r)(hr:r < N)(hx:Z r=Xm g t cs) :Zu w g t cs:=by
 obtain ⟨X,hX,_,h,_,_,hz,_⟩:=h.open;exact h.blkAt (r:=r) Zd hr ((hz r GM hr).trans hx)
theorem Eg.row (h:Eg N w0 w c a q Z s L){r:Nat}(GM:11<=r)(hr:r < N){e:ZL}{kk n:Nat}{v:Zl}{xs:List Zl}(hx:Z r=YU e kk v n xs) :w.ownsRow 0 e kk v n xs:=by
 obtain ⟨X,hX,_,h,_,_,hz,_⟩:=h.open;exact h.row (r:=r) Zd hr ((hz r GM hr).trans hx)
theorem Eg.own (h:Eg N w0 w c a q Z s L){r:Nat}(GM:11<=r)(hr:r < N){Q Q':Zc->(Nat->Prop)->Prop}(hx:Z r=Q)(hQ:Xh Q')
  (hn: ∀S,Q w S-> ∃S',Q' w' S'/\(∀i,S' i->S i\/w.heap.size<=i)/\ZA S w w') :Eg N w0 w' c a q (ZK Z r Q') s L:=by
 obtain ⟨X,hX,hZ,hN,h⟩:=h;refine ⟨ZK X r Q',fun k hk=>?_,fun k h1 h2=>?_,hN,?_⟩
 ·unfold ZK; split
  ·exact hQ
  ·exact hX k hk
 ·unfold ZK; split
  ·rfl
  ·exact hZ k h1 h2
 ·rw [<-Sb GM];exact h.own (EL hX) Zd hr ((Dt GM).trans ((hZ r GM hr).trans hx)) hQ hn
theorem Eg.as (h:Eg N w0 w c a q Z s L){r:Nat}(GM:11<=r)(hr:r < N){Q Q':Zc->(Nat->Prop)->Prop}(hx:Z r=Q)(hQ:Xh Q')(hn: ∀S,Q w S->Q' w S) :Eg N w0 w c a q (ZK Z r Q') s L:=
 h.own GM hr hx hQ fun S hS=>⟨S,hn S hS,fun i hi=> .inl hi,ZS _ _⟩
theorem Eg.setc (h:Eg N w0 w c a q Z s L){r g t:Nat}{cs:Array Zl}(GM:11<=r)(hr:r < N)(hx:Z r=Xm g t cs)(i:Nat)(u:Zl) :Eg N w0 (w.setCell ⟨g,i,none⟩ u) c a q (ZK Z r (Xm g t (cs.setIfInBounds i u))) s L:=
 h.own GM hr hx Vm fun S hS=>⟨S,⟨hS.1.set_ i u,hS.2⟩,fun i hi=> .inl hi,ZA.setCell (ZS _ _) (.inl ((hS.2 g).2 rfl)) _⟩
theorem Eg.setr (h:Eg N w0 w c a q Z s L){r g t:Nat}{cs cs':Array Zl}(GM:11<=r)(hr:r < N)(hx:Z r=Xm g t cs)(hw:Zu w' g t cs')(hk:ZA (fun i=>i=g) w w') :Eg N w0 w' c a q (ZK Z r (Xm g t cs')) s L:=
 h.own GM hr hx Vm fun S hS=>⟨S,⟨hw,hS.2⟩,fun i hi=> .inl hi,hk.more fun i _ hi=>(hS.2 i).2 hi⟩
theorem Eg.more (h:Eg N w0 w c a q Z s L){Q:Zc->(Nat->Prop)->Prop}(hQ:Xh Q){S':Nat->Prop}(hq:Q w' S')(hS: ∀i,S' i->w.heap.size<=i)(hb:Zp w.heap.size w w') :Eg (N+1) w0 w' c a q (ZK Z N Q) s L:=by
 obtain ⟨X,hX,hN,h,_,k,_⟩:=h.open;exact k _ _ _ _ (h.more hX hN hQ hq hS hb) hQ rfl rfl
theorem Eg.fresh (h:Eg N w0 w c a q Z s L){e:ZL}{kk n:Nat}{v:Zl}{xs:List Zl}(ho:w'.ownsRow w.heap.size e kk v n xs)(hb:Zp w.heap.size w w') :Eg (N+1) w0 w' c a q (ZK Z N (YU e kk v n xs)) s L:=
 h.more Jl (BP ho) (fun i hi=>(UB ho i hi).1) hb
theorem Eg.remap {M:Nat}(h:Eg M w0 w c a q Z s L)(hN:11<=N)(f:Nat->Nat)(hf0: ∀k,k < 11->f k=k)(hf1: ∀k,11<=k->11<=f k)(hf: ∀k,k < N->f k < M)(kz: ∀j k,j < N->k < N->f j=f k->j=k)(hZ: ∀k,11<=k->k < N->Z' k=Z (f k)) :Eg N w0 w c a q Z' s L:=by
 obtain ⟨X,hX,hZ2,_,h⟩:=h;refine ⟨fun k=>X (f k),fun k hk=>hX _ (hf1 k hk),fun k h1 h2=>?_,hN,h.remap f (fun k hk=>hf0 k Zd) (fun k hk=>?_) hf kz fun k h1 h2=>?_⟩
 ·rw [hZ k h1 h2]; exact hZ2 _ (hf1 k h1) (hf k h2)
 ·rcases YI k 11 with h1 | h1
  ·rw [hf0 k h1]; exact hk
  ·have:=hf1 k h1; omega
 ·rcases YI k 11 with h3 | h3
  ·rw [hf0 k h3]
   rcases k with _ | _ | _ | _ | _ | _ | _ | _ | _ | _ | _ | k <;> first | rfl | omega
  ·rw [Dt h3,Dt (hf1 k h3)]
theorem Eg.pick {m:Nat}{Q:Zc->(Nat->Prop)->Prop}(h:Eg (N+m+1) w0 w c a q Z s L)(hN:11<=N)(hz: ∀k,11<=k->k < N->Z k=Z' k)(hQ:Z (N+m)=Q) :Eg (N+1) w0 w c a q (ZK Z' N Q) s L:=by
 refine h.remap Zd (fun k=>if k=N then N+m else k) (fun k hk=>if_neg Zd) (fun k hk=>by split <;> omega) (fun k hk=>by split <;> omega) (fun j k hj hk e=>?_) fun k h1 h2=>?_
 ·skip
  split at e <;> split at e <;> omega
 ·unfold ZK
  by_cases hk:k=N
  ·rw [if_pos hk,if_pos hk,hQ]
  ·rw [if_neg hk,if_neg hk]; exact (hz k h1 Zd).symm
theorem Eg.grow {ops:Array Oper}{rest:List Oper}{o:Oper}{d:Act}{Q:Exit->Act->Zc->Prop}(h:Eg N w0 w c a q Z s L){r:Nat}(GM:11<=r)(hr:r < N){e:ZL}{size n:Nat}{v:Zl}{xs:List Zl}(hx:Z r=YU e size v n xs)
  (DD:o.guard=none) (sl x:Operand) (t:ZL) (ho:o.op= .call { callee:= .builtin .append,args:= #[sl,x],argTypes:= #[t,t]}) (i:TypeInfo) (z:Zl) (bytes:Nat) (ht:Tryz.prog.underlying t=some (.slice e)) (hi:Tryz.prog.info? e=some i) (hz:i.zero=some z)
  (Mz:i.size=size) (Ns:i.bytes=bytes) (wm:z.cells.size=size) (BK:0 < size) (hs:d.eval sl=v) (m:Nat) (news:Array Zl) (te:ZL) (g:Nat) (hg:w.heap.size=g) (hx':d.eval x= .slice (some ⟨g,0,none⟩) m m) (hl:news.toList.length=m*size) (h1: ∀u ∈ news.toList,u.oneCell'=true)
  (nN:n+m<=XL) (DN:(n+m)*bytes<=140737488355328)
  (K: ∀v' w',Eg N w0 w' c a q (ZK Z r (YU e size v' (n+m) (xs++news.toList))) s L->w.heap.size<=w'.heap.size->wpList Zb ops Q rest (d.put o.dst v') w') :wpList Zb ops Q (o::rest) d (w.alloc (.cells news te)):=by
 obtain ⟨X,hX,hZ,hN,h⟩:=h;refine h.grow (EL hX) (show 8<=r by omega) hr ((Dt GM).trans ((hZ r GM hr).trans hx)) DD sl x t ho i z bytes ht hi hz Mz Ns wm BK hs m news te g hg hx' hl h1 nN DN fun v' w' h' hle=>K v' w' ⟨ZK X r (YU e size v' (n+m) (xs++news.toList)),fun k hk=>?_,fun k h1 h2=>?_,hN,by rw [<-Sb GM]; exact h'⟩ hle
 ·unfold ZK; split
  ·exact Jl
  ·exact hX k hk
 ·unfold ZK; split
  ·rfl
  ·exact hZ k h1 h2
end
end
section
open Go Go.RowKit
section
variable {α:Type} {A:List α} {z x:α} {k:Nat}
def Kp (A:List α)(z:α)(k:Nat) :List α:=A.take k++ZD (A.length - k) z
theorem Oe:Kp A z 0=ZD A.length z:=by simp [Kp]
theorem RA:Kp A z A.length=A:=by simp [Kp]
theorem RD (h:k<=A.length) :(Kp A z k).length=A.length:=by simp [Kp]; omega
theorem Mq (h:k < A.length) :Kp A z k=A.take k++z::ZD (A.length -(k+1)) z:=by
 unfold Kp;rw [show A.length - k=(A.length -(k+1))+1 by omega,List.replicate_succ]
theorem Od (h:A[k]?=some x) :Kp A z (k+1)=A.take k++x::ZD (A.length -(k+1)) z:=by
 unfold Kp;rw [Y8,h,QA,List.append_assoc]; rfl
theorem qM (h:A[k]?=some x) :(Kp A z k).set k x=Kp A z (k+1):=by
 have hk:=(Zk.1 h).1;have hl:(A.take k).length=k:=Fv;rw [Mq hk,Od h,List.set_append_right (h:=by omega),hl,Nat.sub_self];rfl
end
theorem gN (x y:Zl) : ∀n:Nat,madeCells #[x,y] (n*2)=((ZD n [x,y]).flatten).toArray:=fun n=>by
 apply Array.toList_inj.1;unfold madeCells;rw [Array.toList_map,Array.toList_range]
 induction n with
 | zero=>rfl
 | succ n ih=>
  rw [show (n+1)*2=n*2+1+1 by omega,Kh,Kh,Xv,Xv,ih,List.replicate_succ',List.flatten_append];have h1:n*2%(#[x,y] :Array Zl).size=0:=by show n*2%2=0; omega
  have h2:(n*2+1)%(#[x,y] :Array Zl).size=1:=by show (n*2+1)%2=1; omega
  simp [h1,h2]
theorem lB {w:Zc}{g t k n:Nat}{xs:List Zl}(h:Zu w g t xs.toArray)(hl:xs.length=n*k)(hn:n<=XL) :w.ownsRow 0 t k (.slice (some ⟨g,0,none⟩) n n) n xs:=
 ⟨hl,.inr ⟨g,n,_,rfl,XY _,h,Zh _,hn,by simpa using hl,ZV Xo⟩⟩
section
variable {N:Nat} {w0:FP} {w w' w1:Zc} {c:Nat->Int} {a:Pl} {q:Ql} {Z:Nat->Zc->(Nat->Prop)->Prop} {s s':Sg} {L L':List QZ}
theorem Eg.torow (h:Eg N w0 w c a q Z s L){r g t k n:Nat}{xs:List Zl}(GM:11<=r)(hr:r < N)(hx:Z r=Xm g t xs.toArray)(hl:xs.length=n*k)(hn:n<=XL) :Eg N w0 w c a q (ZK Z r (YU t k (.slice (some ⟨g,0,none⟩) n n) n xs)) s L:=
 h.as GM hr hx Jl fun S hS=>⟨lB hS.1 hl hn,fun i=>by rw [hS.2 i]; simp [YZ]; exact eq_comm⟩
end
end
section
open Go Go.RowKit Go.Deep
section
variable {N:Nat} {w0:FP} {w w' w1:Zc} {c:Nat->Int} {a:Pl} {q:Ql} {X Z:Nat->Zc->(Nat->Prop)->Prop} {s s':Sg} {L L':List QZ}
theorem Lb (l:List (Int × Int)) :(JF l).length=l.length*2:=Ef (row:=Kc) (k:=2) (fun _=>rfl) l
theorem Zcz: ∃i,Tryz.prog.info? 116=some i/\i.zero=some (.agg #[.int .i64 0,.int .i64 0])/\i.size=2/\i.bytes=16:=by
 have h:(Tryz.prog.info? 116).map (fun i=>(i.zero,i.size,i.bytes))=some (some (.agg #[.int .i64 0,.int .i64 0]),2,16):=ZC
 cases hi:Tryz.prog.info? 116 with
 | none=>exact LV
 | some i=>
  exact Oa
theorem iF (n:Nat)(hn:n<=100000)(w:Zc) :
  (Ui 25 (.int .i64 (n:Int)) (.int .i64 (n:Int))).run Zb w= .ok (.slice (some ⟨w.heap.size,0,none⟩) n n) (w.alloc (.cells (JF (ZD n ((0:Int),(0:Int)))).toArray 116)):=by
 obtain ⟨i,hi,hz,hs,Ns⟩:=Zcz;have Ew:=Jc (P:=Zb) 25 116 i _ underlying25 hi hz .i64 .i64 n n (Zh _) CC Zd w;rw [hs] at Ew;have e:JF (ZD n ((0:Int),(0:Int)))=(ZD n [(#[.int .i64 0,.int .i64 0])[0],(#[.int .i64 0,.int .i64 0])[1]]).flatten:=by unfold JF YE; rw [List.flatMap_def,Bc]; rfl
 rw [e];have hz':(Value.agg #[.int .i64 0,.int .i64 0]).cells= #[.int .i64 0,.int .i64 0]:=rfl;rw [hz',gN] at Ew;exact Ew
theorem ZcA {NEW:List (Int × Int)} : ∀j,j≠8->Pt c a (XE c a q NEW s.pt X) { s with mg:=NEW} L j=Pt c a (XE c a q s.mg s.pt X) s L j:=fun j hj=>by
 rcases j with _ | _ | _ | _ | _ | _ | _ | _ | _ | _ | _ | j <;> first | rfl | exact absurd rfl hj
theorem Eg.mcall (h:Eg N w0 w c a q Z s L)(hb:Zp w.heap.size w w1){NEW:List (Int × Int)}{f:FuncId}{args:Array Zl}{v:Zl}
  (hK: ∀go,(∀i,Je q.d go i->i < w.heap.size)->YG 151 116 2 w1 q.d go (c 1).toNat s.mg.length (JF s.mg)->Zv Zb f args w1 fun e w'=>e= .returned v/\ ∃go',YG 151 116 2 w' q.d go' (c 1).toNat NEW.length (JF NEW)/\Gv w1 go go'/\ZA (Je q.d go) w1 w') :
  Zv Zb f args w1 fun e w'=>e= .returned v/\Eg N w0 w' c a q Z { s with mg:=NEW} L/\w1.heap.size<=w'.heap.size:=by
 obtain ⟨X,hX,hZ,hN,h⟩:=h;exact (h.rcall (X':=XE c a q NEW s.pt X) (s':= { s with mg:=NEW}) (k:=8) (EL hX) hb Zd rfl rfl ZcA hK).mono fun e w' ⟨he,h1,h2⟩=>⟨he,⟨X,hX,hZ,hN,h1⟩,h2⟩
theorem Eg.mlen (h:Eg N w0 w c a q Z s L) :Y6 288 #[.pointer (some ⟨q.d,0,none⟩)] w (.int .i64 s.mg.length):=by
 obtain ⟨X,hX,hZ,hN,h⟩:=h;obtain ⟨S,⟨go,hp,_⟩,_⟩:=h.part (k:=8) (show 8 < N by omega);exact AN q.d _ w hp.cells.2
theorem Eg.mpop (h:Eg N w0 w c a q Z s L){p:Int × Int}{rest:List (Int × Int)}(hm:s.mg=p::rest) :Zv Zb 289 #[.pointer (some ⟨q.d,0,none⟩)] w fun e w'=>e= .returned (.tuple #[.agg (YJ p),.bool true])/\Eg N w0 w' c a q Z { s with mg:=rest} L/\w.heap.size<=w'.heap.size:=
 h.mcall (Zn _ _) fun go XJ hr=>by
  rw [hm] at hr;exact (rY q.d _ rest.length go (JF rest) (.int .i64 p.1) (.int .i64 p.2) w hr).mono fun e w' ⟨he,h1,h2⟩=>⟨he,go,h1,fun i hi=> .inl hi,h2⟩
theorem Eg.mpush (h:Eg N w0 w c a q Z s L)(p:Int × Int)(hl:(s.mg.length:Int)< c 1) :Zv Zb 133 #[.pointer (some ⟨q.d,0,none⟩),.slice (some ⟨w.heap.size,0,none⟩) 1 1] (w.alloc (.cells (YJ p) 116)) fun e w'=>e= .returned (.int .i64 1)/\Eg N w0 w' c a q Z { s with mg:=s.mg++[p]} L:=by
 have Ad:min 1 ((c 1).toNat - s.mg.length)=1:=Zd;refine (h.mcall ((Zn _ _).alloc (Zh _) _) fun go XJ hr=>?_).mono fun e w' ⟨he,h1,_⟩=>⟨he,h1⟩
 have hK:=S7 q.d (c 1).toNat s.mg.length 1 1 go _ (JF s.mg) (YJ p).toList _ hr (PS w (YJ p) _ 1 2 rfl (fun v hv=>ZQ.1 (UM p) v P6) _ XJ) Zd Zd;rw [Ad] at hK;refine hK.mono ?_;rintro e w' ⟨rfl,go',h1,h2,h3⟩;refine ⟨rfl,go',?_,h2,h3⟩;rw [ZI,show JF (s.mg++[p])=JF s.mg++Kc p by unfold JF; rw [Ku,FV]];exact h1
theorem Eg.mfull (h:Eg N w0 w c a q Z s L)(p:Int × Int)(hl:c 1<=(s.mg.length:Int)) :Zv Zb 133 #[.pointer (some ⟨q.d,0,none⟩),.slice (some ⟨w.heap.size,0,none⟩) 1 1] (w.alloc (.cells (YJ p) 116)) fun e w'=>e= .returned (.int .i64 0)/\Eg N w0 w' c a q Z s L:=by
 have Ad:min 1 ((c 1).toNat - s.mg.length)=0:=Zd;refine (h.mcall (NEW:=s.mg) ((Zn _ _).alloc (Zh _) _) fun go XJ hr=>?_).mono fun e w' ⟨he,h1,_⟩=>⟨he,h1⟩
 have hK:=S7 q.d (c 1).toNat s.mg.length 1 1 go _ (JF s.mg) (YJ p).toList _ hr (PS w (YJ p) _ 1 2 rfl (fun v hv=>ZQ.1 (UM p) v P6) _ XJ) Zd Zd;exact ZeY
theorem Eg.mall (h:Eg N w0 w c a q Z s L) :Zv Zb 47 #[.pointer (some ⟨q.d,0,none⟩)] w fun e w'=>e= .returned (.slice (some ⟨w.heap.size,0,none⟩) s.mg.length s.mg.length)/\Eg (N+1) w0 w' c a q (ZK Z N (Xm w.heap.size 116 (JF s.mg).toArray)) s L/\Zp w.heap.size w w':=by
 have h':=h;obtain ⟨X,hX,hZ,hN,h⟩:=h;obtain ⟨S,⟨go,hp,_⟩,_⟩:=h.part (k:=8) (show 8 < N by omega);refine (lQ q.d _ _ go _ w hp).mono ?_;exact Zm3
theorem Eg.mstore (h:Eg N w0 w c a q Z s L){r g j:Nat}{A:List (Int × Int)}{p:Int × Int}(GM:11<=r)(hr:r < N)(hx:Z r=Xm g 116 (JF (Kp A ((0:Int),(0:Int)) j)).toArray)(hj:A[j]?=some p) :
  w.there g (j*2) 2/\Eg N w0 (w.setCells g (j*2) (YJ p).toList) c a q (ZK Z r (Xm g 116 (JF (Kp A ((0:Int),(0:Int)) (j+1))).toArray)) s L:=by
 have Fc:=(Zk.1 hj).1;have hB:=h.blkAt GM hr hx;have e1:JF (Kp A ((0:Int),(0:Int)) j)=JF (A.take j)++Kc ((0:Int),(0:Int))++JF (ZD (A.length -(j+1)) ((0:Int),(0:Int))):=by
  rw [Mq Fc]; unfold JF; exact pr
 have e2:JF (Kp A ((0:Int),(0:Int)) (j+1))=JF (A.take j)++Kc p++JF (ZD (A.length -(j+1)) ((0:Int),(0:Int))):=by
  rw [Od hj]; unfold JF; exact pr
 have el:(JF (A.take j)).length=j*2:=by rw [Lb,Xl,GU Zd]
 refine ⟨fun i hi=>⟨?_,hB.frozen _⟩,?_⟩
 ·rw [hB.cell,XG,Zg (by rw [Lb,RD Zd]; omega)]; rfl
 ·have WW:=hB;rw [e1] at WW;have h2:=Gf (Kc p) (JF (A.take j)) (Kc ((0:Int),(0:Int))) _ w rfl WW;exact Zfi
theorem Lg (l:List (Rq)) :(Jp l).length=l.length*2:=Ef (row:=Rq.row) (k:=2) (fun _=>rfl) l
theorem ZcU: ∃i,Tryz.prog.info? 119=some i/\i.zero=some (.agg #[.int .i64 0,.int .u64 0])/\i.size=2/\i.bytes=16:=by
 have h:(Tryz.prog.info? 119).map (fun i=>(i.zero,i.size,i.bytes))=some (some (.agg #[.int .i64 0,.int .u64 0]),2,16):=ZC;exact Zm8
theorem iG (n:Nat)(hn:n<=100000)(w:Zc) :
  (Ui 26 (.int .i64 (n:Int)) (.int .i64 (n:Int))).run Zb w= .ok (.slice (some ⟨w.heap.size,0,none⟩) n n) (w.alloc (.cells (Jp (ZD n NO)).toArray 119)):=by
 obtain ⟨i,hi,hz,hs,Ns⟩:=ZcU;have Ew:=Jc (P:=Zb) 26 119 i _ underlying26 hi hz .i64 .i64 n n (Zh _) CC Zd w;rw [hs] at Ew;have e:Jp (ZD n NO)=(ZD n [(#[.int .i64 0,.int .u64 0])[0],(#[.int .i64 0,.int .u64 0])[1]]).flatten:=by unfold Jp YE; rw [List.flatMap_def,Bc]; rfl
 rw [e];have hz':(Value.agg #[.int .i64 0,.int .u64 0]).cells= #[.int .i64 0,.int .u64 0]:=rfl;rw [hz',gN] at Ew;exact Ew
theorem ZcV {NEW:List (Rq)} : ∀j,j≠9->Pt c a (XE c a q s.mg NEW X) { s with pt:=NEW} L j=Pt c a (XE c a q s.mg s.pt X) s L j:=fun j hj=>by
 rcases j with _ | _ | _ | _ | _ | _ | _ | _ | _ | _ | _ | j <;> first | rfl | exact absurd rfl hj
theorem Eg.tcall (h:Eg N w0 w c a q Z s L)(hb:Zp w.heap.size w w1){NEW:List (Rq)}{f:FuncId}{args:Array Zl}{v:Zl}
  (hK: ∀go,(∀i,Je q.q go i->i < w.heap.size)->YG 154 119 2 w1 q.q go (c 1).toNat s.pt.length (Jp s.pt)->Zv Zb f args w1 fun e w'=>e= .returned v/\ ∃go',YG 154 119 2 w' q.q go' (c 1).toNat NEW.length (Jp NEW)/\Gv w1 go go'/\ZA (Je q.q go) w1 w') :
  Zv Zb f args w1 fun e w'=>e= .returned v/\Eg N w0 w' c a q Z { s with pt:=NEW} L/\w1.heap.size<=w'.heap.size:=by
 obtain ⟨X,hX,hZ,hN,h⟩:=h;exact (h.rcall (X':=XE c a q s.mg NEW X) (s':= { s with pt:=NEW}) (k:=9) (EL hX) hb Zd rfl rfl ZcV hK).mono fun e w' ⟨he,h1,h2⟩=>⟨he,⟨X,hX,hZ,hN,h1⟩,h2⟩
theorem Eg.tlen (h:Eg N w0 w c a q Z s L) :Y6 274 #[.pointer (some ⟨q.q,0,none⟩)] w (.int .i64 s.pt.length):=by
 obtain ⟨X,hX,hZ,hN,h⟩:=h;obtain ⟨S,⟨go,hp,_⟩,_⟩:=h.part (k:=9) (show 9 < N by omega);exact A7 q.q _ w hp.cells.2
theorem Eg.tpop (h:Eg N w0 w c a q Z s L){p:Rq}{rest:List (Rq)}(hm:s.pt=p::rest) :Zv Zb 275 #[.pointer (some ⟨q.q,0,none⟩)] w fun e w'=>e= .returned (.tuple #[.agg (ZF p),.bool true])/\Eg N w0 w' c a q Z { s with pt:=rest} L/\w.heap.size<=w'.heap.size:=
 h.tcall (Zn _ _) fun go XJ hr=>by
  rw [hm] at hr;exact (sg q.q _ rest.length go (Jp rest) (.int .i64 p.ix) (.int .u64 p.am) w hr).mono fun e w' ⟨he,h1,h2⟩=>⟨he,go,h1,fun i hi=> .inl hi,h2⟩
theorem Eg.tpush (h:Eg N w0 w c a q Z s L)(p:Rq)(hl:(s.pt.length:Int)< c 1) :Zv Zb 135 #[.pointer (some ⟨q.q,0,none⟩),.slice (some ⟨w.heap.size,0,none⟩) 1 1] (w.alloc (.cells (ZF p) 119)) fun e w'=>e= .returned (.int .i64 1)/\Eg N w0 w' c a q Z { s with pt:=s.pt++[p]} L:=by
 have Ad:min 1 ((c 1).toNat - s.pt.length)=1:=Zd;refine (h.tcall ((Zn _ _).alloc (Zh _) _) fun go XJ hr=>?_).mono fun e w' ⟨he,h1,_⟩=>⟨he,h1⟩
 have hK:=Tc q.q (c 1).toNat s.pt.length 1 1 go _ (Jp s.pt) (ZF p).toList _ hr (PS w (ZF p) _ 1 2 rfl (fun v hv=>ZQ.1 (Ky p) v P6) _ XJ) Zd Zd;rw [Ad] at hK;refine hK.mono ?_;rintro e w' ⟨rfl,go',h1,h2,h3⟩;refine ⟨rfl,go',?_,h2,h3⟩;rw [ZI,show Jp (s.pt++[p])=Jp s.pt++Rq.row p by unfold Jp; rw [Ku,FV]];exact h1
theorem Eg.tfull (h:Eg N w0 w c a q Z s L)(p:Rq)(hl:c 1<=(s.pt.length:Int)) :Zv Zb 135 #[.pointer (some ⟨q.q,0,none⟩),.slice (some ⟨w.heap.size,0,none⟩) 1 1] (w.alloc (.cells (ZF p) 119)) fun e w'=>e= .returned (.int .i64 0)/\Eg N w0 w' c a q Z s L:=by
 have Ad:min 1 ((c 1).toNat - s.pt.length)=0:=Zd;refine (h.tcall (NEW:=s.pt) ((Zn _ _).alloc (Zh _) _) fun go XJ hr=>?_).mono fun e w' ⟨he,h1,_⟩=>⟨he,h1⟩
 have hK:=Tc q.q (c 1).toNat s.pt.length 1 1 go _ (Jp s.pt) (ZF p).toList _ hr (PS w (ZF p) _ 1 2 rfl (fun v hv=>ZQ.1 (Ky p) v P6) _ XJ) Zd Zd;exact ZeY
theorem Eg.tall (h:Eg N w0 w c a q Z s L) :Zv Zb 48 #[.pointer (some ⟨q.q,0,none⟩)] w fun e w'=>e= .returned (.slice (some ⟨w.heap.size,0,none⟩) s.pt.length s.pt.length)/\Eg (N+1) w0 w' c a q (ZK Z N (Xm w.heap.size 119 (Jp s.pt).toArray)) s L/\Zp w.heap.size w w':=by
 have h':=h;obtain ⟨X,hX,hZ,hN,h⟩:=h;obtain ⟨S,⟨go,hp,_⟩,_⟩:=h.part (k:=9) (show 9 < N by omega);refine (mf q.q _ _ go _ w hp).mono ?_;exact Zm3
theorem Eg.tstore (h:Eg N w0 w c a q Z s L){r g j:Nat}{A:List (Rq)}{p:Rq}(GM:11<=r)(hr:r < N)(hx:Z r=Xm g 119 (Jp (Kp A NO j)).toArray)(hj:A[j]?=some p) :
  w.there g (j*2) 2/\Eg N w0 (w.setCells g (j*2) (ZF p).toList) c a q (ZK Z r (Xm g 119 (Jp (Kp A NO (j+1))).toArray)) s L:=by
 have Fc:=(Zk.1 hj).1;have hB:=h.blkAt GM hr hx;have e1:Jp (Kp A NO j)=Jp (A.take j)++Rq.row NO++Jp (ZD (A.length -(j+1)) NO):=by
  rw [Mq Fc]; unfold Jp; exact pr
 have e2:Jp (Kp A NO (j+1))=Jp (A.take j)++Rq.row p++Jp (ZD (A.length -(j+1)) NO):=by
  rw [Od hj]; unfold Jp; exact pr
 have el:(Jp (A.take j)).length=j*2:=by rw [Lg,Xl,GU Zd]
 refine ⟨fun i hi=>⟨?_,hB.frozen _⟩,?_⟩
 ·rw [hB.cell,XG,Zg (by rw [Lg,RD Zd]; omega)]; rfl
 ·have WW:=hB;rw [e1] at WW;have h2:=Gf (Rq.row p) (Jp (A.take j)) (Rq.row NO) _ w rfl WW;exact Zfi
end
end
section
open Go Go.RowKit
section
variable {N:Nat} {w0:FP} {w w' w1:Zc} {c:Nat->Int} {a:Pl} {q:Ql} {Z:Nat->Zc->(Nat->Prop)->Prop} {s s':Sg} {L L':List QZ}
theorem jX (h:Eg N w0 w c a q Z s L) :Y6 41 #[.pointer (some ⟨q.e,20,none⟩)] w (.int .i64 s.bk):=by
 have x0:=Xx h.blk 20;obtain ⟨X,hX,hN,hh,_⟩:=h.open;have H:=Za (hh.block hN);clear h hh hX hN;go_enter func41,ntmps41;exact Ze9
theorem BI (h:Eg N w0 w c a q Z s L)(h0:0<=s.bk)(h1:s.bk<=9223372036854775807)(hL:1<=c 13)(he:s.ep=s.bk/c 13) :
  Xc 42 #[.pointer (some ⟨q.e,20,none⟩)] w (.int .i64 s.ep):=by
 have x0:=Xx h.blk 20;obtain ⟨X,hX,hN,hh,_⟩:=h.open;have H:=Za (hh.epoch hN h0 h1 hL he);clear h hh hX hN h0 h1 hL he;go_enter func42,ntmps42;exact Ze4
theorem uK (h:Eg N w0 w c a q Z s L)(h0:0<=s.bk)(h1:s.bk<=9223372036854775806)(hL:1<=c 13) :
  Zv Zb 136 #[.pointer (some ⟨q.e,20,none⟩)] w fun e w'=>e= .returned (.bool ((s.bk+1)%c 13==0))/\Eg N w0 w' c a q Z { s with bk:=s.bk+1} L:=by
 have x0:=Xx h.blk 20;obtain ⟨X,hX,hN,hh,hK,_⟩:=h.open;have H:=Za (hh.tick hX hN h0 h1 hL);have HK:=Za hK;generalize ((s.bk+1)%c 13==0)=B at*;clear h hh hX hN h0 h1 hL hK;go_enter func136,ntmps136;go_wp2_with fail;refine H.o.mono ?_;rintro e w' ⟨rfl,h2⟩;have h2:=Za (HK.o _ _ _ h2 rfl rfl);go_wp2_with fail;go_ret;exact ⟨rfl,h2.o⟩
theorem ZkJ (h:Eg N w0 w c a q Z s L){n:Nat}{v v':ZN}{x:Int}(hv:s.V[n]?=some v)(hf:Yp v')(ht:Zw s.V - v.bal+v'.bal<=18446744073709551615)(hF:JJ s.D s.P s.B (c 4))(x0:0<=x)(hx:x<=s.D - s.P - s.B) :
  Zv Zb 208 #[.pointer (some ⟨q.e,21,none⟩),.int .i64 (n:Int),.agg (Ze v'),.int .u64 x] w fun e w'=>e= .returned (.tuple #[])/\Eg N w0 w' c a q Z { s with V:=s.V.set n v',P:=s.P+x} L:=by
 have hN:=h.low;have h1:=h.box (Ze v') 68;have y0:(w.alloc (.cells (Ze v') 68)).cell? ⟨q.e,21,none⟩=some (.pointer (some ⟨a.r,0,none⟩)):=h1.blk.cell 21;have hb:Zu (w.alloc (.cells (Ze v') 68)) w.heap.size 68 (Ze v'):=Zs _ _ _;have HB:=Za hb;obtain ⟨X,hX,Uz,hh,hK,_⟩:=h1.open;have H:=Za (fun m=>(hh.drewN hX m).set hX Uz hv hf ht);have HK:=Za hK;have HP:Zj (∀w2 X,(∀k,8<=k->Xh (X k))->En (N+1) w0 w2 c a X { s with V:=s.V.set n v'} L->_):=Za fun w2 X hX he=>En.pay he hX Uz hF x0 hx
 have HN:=Za hN;clear h h1 hv hf ht hF x0 hx hK hh hX hN hb Uz;go_enter func208,ntmps208;exact Zl8
theorem ZkE (h:Eg N w0 w c a q Z s L){n:Nat}{v v':ZN}{x:Int}(hv:s.V[n]?=some v)(hf:Yp v')(ht:Zw s.V - v.bal+v'.bal<=18446744073709551615)(hF:JJ s.D s.P s.B (c 4))(x0:0<=x)(hx:x<=s.D - s.P - s.B) :
  Zv Zb 129 #[.pointer (some ⟨q.e,21,none⟩),.int .i64 (n:Int),.agg (Ze v'),.int .u64 x] w fun e w'=>e= .returned (.tuple #[])/\Eg N w0 w' c a q Z { s with V:=s.V.set n v',B:=s.B+x} L:=by
 have hN:=h.low;have h1:=h.box (Ze v') 68;have y0:(w.alloc (.cells (Ze v') 68)).cell? ⟨q.e,21,none⟩=some (.pointer (some ⟨a.r,0,none⟩)):=h1.blk.cell 21;have hb:Zu (w.alloc (.cells (Ze v') 68)) w.heap.size 68 (Ze v'):=Zs _ _ _;have HB:=Za hb;obtain ⟨X,hX,Uz,hh,hK,_⟩:=h1.open;have H:=Za (fun m=>(hh.drewN hX m).set hX Uz hv hf ht);have HK:=Za hK;have HP:Zj (∀w2 X,(∀k,8<=k->Xh (X k))->En (N+1) w0 w2 c a X { s with V:=s.V.set n v'} L->_):=Za fun w2 X hX he=>En.burn he hX Uz hF x0 hx
 have HN:=Za hN;clear h h1 hv hf ht hF x0 hx hK hh hX hN hb Uz;go_enter func129,ntmps129;exact Zl8
theorem Zd9 (h:Eg N w0 w c a q Z s L)(cl:Int) :Zv Zb 127 #[.pointer (some ⟨q.e,24,none⟩),.int .i64 cl] w fun e w'=>e= .returned (.bool (((Mv (c 1).toNat s.F s.W cl:Nat) :Int)==0))/\ ∃m,w'=w.drewN m:=by
 have x0:=Xx h.blk 24;obtain ⟨X,hX,hN,hh,_⟩:=h.open;have H:=Za (hh.lfree hN cl);generalize Mv (c 1).toNat s.F s.W cl=f at*;clear h hh hX hN;go_enter func127,ntmps127;exact Ze4
theorem uM (h:Eg N w0 w c a q Z s L){i:Int}{v:ZN}(h0:0<=v.wd)(h1:v.wd<=1099511627776)(hL:L.length<=100000) :
  Zv Zb 131 #[.pointer (some ⟨q.e,24,none⟩),.int .i64 i,.agg (Ze v)] w fun e w'=>e= .returned (.tuple #[])/\Eg N w0 w' c a q Z s (L++[(v.wd,i)]):=by
 have hN:=h.low;have h2:=h.box (Ze v) 68;have y0:(w.alloc (.cells (Ze v) 68)).cell? ⟨q.e,26,none⟩=some (.pointer (some ⟨a.u,0,none⟩)):=h2.blk.cell 26;have y1:(w.alloc (.cells (Ze v) 68)).cell? ⟨w.heap.size,5,none⟩=some (.int .i64 v.wd):=(Zs w 68 (Ze v)).cell 5;obtain ⟨X,hX,Uz,hh,hK,_⟩:=h2.open;have H:=Za (fun m=>(hh.drewN hX m).put hX Uz (it:=i) h0 h1 hL);have HK:=Za hK;have HN:=Za hN;generalize v.wd=t at*;clear h h2 h0 h1 hL hX Uz hh hK hN;go_enter func131,ntmps131;go_upto_region 1 with (fail);generalize w.alloc (.cells (Ze v) 68)=W at*;refine BU 7 ?_;refine BY ?_;refine dN ?_;refine Yo ?_;intro _ JG;obtain ⟨nr,Xk⟩:=JG;subst Xk;go_wp2_with fail;refine (H.o nr).mono ?_;rintro e w2 ⟨rfl,h2⟩;have h4:=Za ((HK.o _ _ _ h2 rfl rfl).drop HN.o);clear h2 HK H y0 y1;go_wp2_with fail;go_end0;exact ⟨rfl,h4.o⟩
theorem ZbF (h:Eg N w0 w c a q Z s L){x:Int}(hF:JJ s.D s.P s.B (c 4))(x0:0<=x)(x1:x<=18446744073709551615)(hx:c 4 -(s.D - s.P - s.B)< x\/(x<=c 4 -(s.D - s.P - s.B)/\18446744073709551615 < s.D+x)) :
  Z3 122 #[.pointer (some ⟨q.e,21,none⟩),.int .u64 x] w (.tuple #[.int .i64 (-1),.int .i64 (if c 4 -(s.D - s.P - s.B)< x then 4 else 10)]):=by
 have y0:=Xx h.blk 22;obtain ⟨X,hX,hN,hh,_⟩:=h.open;have H:Zj (Z3 168 #[.pointer (some ⟨a.l,0,none⟩),.int .u64 x] w (.int .i64 (if c 4 -(s.D - s.P - s.B)< x then 4 else 10))):=Za (by
  obtain ⟨S,hp,_⟩:=hh.part (show 1 < N by omega)
  rcases hx with hx | ⟨hx,ho⟩
  ·rw [if_pos hx]; exact (WL a.l _ _ _ _ x w hp.1 hF hx).mono fun e w' ⟨he,m,hm⟩=>⟨he,hm▸below_drewN (Zn _ _) m⟩
  ·rw [if_neg Zd]; exact (bE a.l _ _ _ _ x w hp.1 hF x0 x1 hx ho).mono fun e w' ⟨he,hb⟩=>⟨he,by first | exact hb | (obtain ⟨m,rfl⟩:=hb; exact below_drewN (Zn _ _) m)⟩)
 obtain ⟨k,hk⟩ : ∃k:Int,(if c 4 -(s.D - s.P - s.B)< x then 4 else 10)=k:=⟨_,rfl⟩;have fY:(k != 0)=true:=by rw [<-hk]; split <;> rfl
 rw [hk] at H;rw [hk];clear h hh hX hN hF x0 x1 hx hk;go_enter func122,ntmps122;go_wp2_with fail;refine H.o.mono ?_;rintro e w' ⟨rfl,hb⟩;have HB:=Za hb;clear hb H;go_wp2_with fail;go_ret2;exact ⟨rfl,HB.o⟩
theorem ZoQ (h:Eg N w0 w c a q Z s L){x:Int}(hF:JJ s.D s.P s.B (c 4))(x0:0<=x)(x1:x<=18446744073709551615)(hx:x<=c 4 -(s.D - s.P - s.B))(ho:s.D+x<=18446744073709551615)(hl:(s.V.length:Int)< c 0)(ht:Zw s.V+x<=18446744073709551615) :
  Zv Zb 122 #[.pointer (some ⟨q.e,21,none⟩),.int .u64 x] w fun e w'=>e= .returned (.tuple #[.int .i64 s.V.length,.int .i64 0])/\Eg N w0 w' c a q Z { s with V:=s.V++[Lc x],D:=s.D+x} L:=by
 have y0:=Xx h.blk 22;obtain ⟨X,hX,hN,hh,hK,_⟩:=h.open;have H:=Za (hh.deposit hX hN hF x0 hx ho);have HK:=Za hK;have DB:Yp (Lc x):=(wW (e:=0) x0 x1).fit;have HP:Zj (∀w2 X,(∀k,8<=k->Xh (X k))->En N w0 w2 c a X { s with D:=s.D+x} L->_):=Za fun w2 X hX he=>En.add he hX hN DB hl (by show Zw s.V+x<=_; exact ht)
 obtain ⟨m,hm⟩:=ZR (s.V.length);rw [hm] at HP ⊢;clear h hh hX hN hF x0 hx ho hl ht hK DB hm;go_enter func122,ntmps122;go_wp2_with fail;refine H.o.mono ?_;rintro e w2 ⟨rfl,h2⟩;have h3:=HK.o _ _ _ h2 rfl rfl;have y1:=Xx h3.blk 21;obtain ⟨X2,hX2,hN2,hh2,C8,_⟩:=h3.open;have H2:=Za (HP.o _ _ hX2 hh2);have Sn:=Za C8;clear h2 h3 hX2 hN2 hh2 C8 H HP HK y0;go_wp2_with (first | (refine Gr rfl 68 _ rfl (Lc x) ZC ?_));refine H2.o.mono ?_;rintro e w3 ⟨rfl,h4⟩;have h4:=Za (Sn.o _ _ _ h4 rfl rfl);clear Sn H2;go_wp2_with fail;go_ret2;exact ⟨rfl,h4.o⟩
structure Tm (c:Nat->Int)(s:Sg) :Prop where
 b0:0<=s.bk
 b1:s.bk<=9223372036854775807
 l:1<=c 13
 q:s.ep=s.bk/c 13
theorem Inv.tm {k:Nat}(hc:GE c)(h:Inv c k s)(hk:k<=1000000) :Tm c s:=⟨h.bk0,by have:=h.bk1; omega,hc.g.len0,h.epq⟩
def Of (N:Nat)(w0:FP)(w:Zc)(c:Nat->Int)(a:Pl)(q:Ql)(Z:Nat->Zc->(Nat->Prop)->Prop)(s:Sg)(L:List QZ)(b:Nat)(o:Oq) :Prop:=
 Eg (N+2) w0 w c a q (ZK (ZK Z N (Xm b 49 (Z6 o))) (N+1) (Xm (b+1) 53 (Z9 Bi))) s L
theorem EA (h:Eg N w0 w c a q Z s L)(o:Oq) :Of N w0 ((w.alloc (.cells (Z6 o) 49)).alloc (.cells (Z9 Bi) 53)) c a q Z s L w.heap.size o:=by
 have h2:=(h.box (Z6 o) 49).box (Z9 Bi) 53;rw [show (w.alloc (.cells (Z6 o) 49)).heap.size=w.heap.size+1 by simp] at h2;exact h2
variable {b:Nat} {o:Oq}
theorem Of.op (h:Of N w0 w c a q Z s L b o)(hN:11<=N) :Zu w b 49 (Z6 o):=Eg.blkAt h hN Zd Uv
theorem Of.rc (h:Of N w0 w c a q Z s L b o)(hN:11<=N) :Zu w (b+1) 53 (Z9 Bi):=Eg.blkAt h (r:=N+1) Zd Zd Zr
theorem Of.done (h:Of N w0 w c a q Z s L b o)(hN:11<=N)(cs:Array Zl) :Eg N w0 (w.setRow (b+1) cs) c a q Z s L:=by
 have h2:Eg (N+2) w0 (w.setRow (b+1) cs) c a q _ s L:=Eg.setr h (r:=N+1) Zd Zd Zr (cs':=cs) (Zu.setRow (h.rc hN) cs) (ZA.setRow (S:=fun i=>i=b+1) (ZS _ _) (.inl rfl) cs);exact ((h2.less Zd).less hN).ext fun k h1 h3=>by rw [Zy Zd,Zy Zd,Zy Zd]
end
end
section
open Go Go.RowKit Go.Deep
section
variable {N:Nat} {w0:FP} {w w' w1:Zc} {c:Nat->Int} {a:Pl} {q:Ql} {Z:Nat->Zc->(Nat->Prop)->Prop} {s s':Sg} {L L':List QZ}
theorem nD (h:Eg N w0 w c a q Z s L)(t:Tm c s)(o:Oq)(k:Int) :Zv Zb 39 #[.pointer (some ⟨q.e,0,none⟩),.agg (Z6 o),.int .i64 k] w fun e w'=>e= .returned (.agg (Z9 (r9 o.kd k s.bk s.ep)))/\Eg N w0 w' c a q Z s L:=by
 have hN:=h.low;have hO:=EA h o;obtain ⟨t0,t1,t2,t3⟩:=t;go_enter func39,ntmps39;go_upto_region 1 with (fail);generalize hW:(w.alloc (.cells (Z6 o) 49)).alloc (.cells _ 53)=W;have eW:(w.alloc (.cells (Z6 o) 49)).alloc (.cells (Z9 Bi) 53)=W:=hW;rw [eW] at hO;generalize w.heap.size=b at*;have hD:Of N w0 W.drew c a q Z s L b o:=Eg.drew hO;have H1:=Za (jX hD);have H2:=Za (BI hD t0 t1 t2 t3);have H3:=Za (fun w=>lZ o k s.bk s.ep w);have HO:=Za hO;have HD:=Za hD;have HN:=Za hN;clear hW eW t0 t1 t2 t3 h hO hD hN;refine L5 (fun w'=>Zu w' b 49 (Z6 o)) 11 3 [0,1,2,3,4,6,7,8] (?_) ?_
 ·exact HD.o.op HN.o
 refine JH ?_;show wpQuiet _ _ _ _ [_,_,_,_,_,_,_,_] _;refine Jb 49 _ b 49 (Z6 o) _ rfl rfl rfl (fun w' h=>h) underlying49 rfl DO ?_;refine X7 ?_;refine dN ?_;refine Yo ?_;generalize W.drew=V at*;refine Ed ?_;refine JA #[.pointer (some ⟨q.e,20,none⟩)] call41 ((H1.o).mono ?_);rintro e w2 ⟨rfl,rfl⟩;refine ⟨_,rfl,HD.o.op HN.o,?_⟩;refine JC (i:=9) ?_;refine Jk ?_;refine JA #[.pointer (some ⟨q.e,20,none⟩)] call42 ((H2.o).mono ?_);rintro e w2 ⟨rfl,m,rfl⟩;refine ⟨_,rfl,HD.o.op HN.o,?_⟩;refine JC (i:=10) ?_;refine Jk ?_;refine JA #[.agg (Z6 o),.int .i64 k,.int .i64 s.bk,.int .i64 s.ep] call37 ((H3.o (V.drewN m)).mono ?_);rintro e w3 ⟨rfl,hb⟩;have h3:Of N w0 w3 c a q Z s L b o:=Eg.below (Eg.drewN HD.o m) hb;have H4:=Za h3;refine ⟨_,rfl,h3.op HN.o,?_⟩;have HZ:=Za (h3.rc HN.o);clear h3 hb H1 H2 H3 HD HO;refine GD ?_;refine ⟨by kernel_rfl,?_⟩;refine LA ?_;go_wp2_with (first | (refine Up (b+1) (Z9 (r9 o.kd k s.bk s.ep)) 53 HZ.o Vs (Ka _) ?_));exact ZmL
theorem nB (h:Eg N w0 w c a q Z s L)(t:Tm c s)(o:Oq)(i d:Int) :Zv Zb 124 #[.pointer (some ⟨q.e,0,none⟩),.agg (Z6 o),.int .i64 i,.int .i64 d] w fun e w'=>e= .returned (.agg (Z9 (Wm o.kd i d s.bk s.ep)))/\Eg N w0 w' c a q Z s L:=by
 have hN:=h.low;have hO:=EA h o;obtain ⟨t0,t1,t2,t3⟩:=t;go_enter func124,ntmps124;go_upto_region 1 with (fail);generalize hW:(w.alloc (.cells (Z6 o) 49)).alloc (.cells _ 53)=W;have eW:(w.alloc (.cells (Z6 o) 49)).alloc (.cells (Z9 Bi) 53)=W:=hW;rw [eW] at hO;generalize w.heap.size=b at*;have hD:Of N w0 W.drew c a q Z s L b o:=Eg.drew hO;have H1:=Za (jX hD);have H2:=Za (BI hD t0 t1 t2 t3);have H3:=Za (fun w=>CV o i d s.bk s.ep w);have HO:=Za hO;have HD:=Za hD;have HN:=Za hN;clear hW eW t0 t1 t2 t3 h hO hD hN;refine L5 (fun w'=>Zu w' b 49 (Z6 o)) 12 3 [0,1,2,3,4,5,7,8,9] (?_) ?_
 ·exact HD.o.op HN.o
 refine JH ?_;refine td ?_;refine Jb 49 _ b 49 (Z6 o) _ rfl rfl rfl (fun w' h=>h) underlying49 rfl DO ?_;refine X7 ?_;iterate 8 (go_big_quiet_step ((intros; rfl)))
 refine Yo ?_;generalize W.drew=V at*;refine Lz ?_;refine JA #[.pointer (some ⟨q.e,20,none⟩)] call41 ((H1.o).mono ?_);rintro e w2 ⟨rfl,rfl⟩;refine ⟨_,rfl,HD.o.op HN.o,?_⟩;refine JC (i:=10) ?_;refine Jk ?_;refine JA #[.pointer (some ⟨q.e,20,none⟩)] call42 ((H2.o).mono ?_);rintro e w2 ⟨rfl,m,rfl⟩;refine ⟨_,rfl,HD.o.op HN.o,?_⟩;refine JC (i:=11) ?_;refine Jk ?_;refine JA #[.agg (Z6 o),.int .i64 i,.int .i64 d,.int .i64 s.bk,.int .i64 s.ep] call172 ((H3.o (V.drewN m)).mono ?_);rintro e w3 ⟨rfl,hb⟩;have h3:Of N w0 w3 c a q Z s L b o:=Eg.below (Eg.drewN HD.o m) hb;have H4:=Za h3;refine ⟨_,rfl,h3.op HN.o,?_⟩;have HZ:=Za (h3.rc HN.o);clear h3 hb H1 H2 H3 HD HO;refine GD ?_;refine ⟨by kernel_rfl,?_⟩;refine LA ?_;go_wp2_with (first | (refine Up (b+1) (Z9 (Wm o.kd i d s.bk s.ep)) 53 HZ.o Vs (Ka _) ?_));exact ZmL
end
end
section
open Go Go.RowKit Go.Deep
theorem cV {w:Zc}{e:ZL}{n k:Nat}{ia:Option Addr}{cp:Nat}{xs:List Zl}{u:Zl}(h:w.ownsRow 0 e 1 (.slice ia n cp) n xs)(hk:xs[k]?=some u) : ∃g,ia=some ⟨g,0,none⟩/\w.cell? ⟨g,k,none⟩=some u:=by
 have hl:=(Zk.1 hk).1;have h0:=h.1
 rcases h.2 with ⟨h1,h2⟩ | ⟨g,Bg,cur,h1,_⟩
 ·rw [h2] at h0; omega
 ·injection h1 with h1 _ _;refine ⟨g,h1,?_⟩;subst h1;have:=h.cells rfl k u hk;rwa [add_plain,ZW] at this
theorem WR (ev:Int) : ∀(A B:List Int) (V:List ZN),Rz ev V (A++B)=Rz ev (Rz ev V A) B
 | [],_,_=>rfl
 | i::A,B,V=>WR ev A B _
theorem uT {ev:Int}{V:List ZN}{I:List Int}{k:Nat}{i:Int}(hk:I[k]?=some i) :Rz ev V (I.take (k+1))=(Rz ev V (I.take k)).set i.toNat (ON ev (VW (Rz ev V (I.take k)) i)):=by
 rw [Y8,hk,QA,WR]; rfl
theorem WS {ev:Int}{v:ZN}(h:Yp v) :Yp (ON ev v):=⟨h.1,cO _ _⟩
theorem sy {V:List ZN}{n:Nat}{u v:ZN}(hv:V[n]?=some u)(h:v.bal=u.bal) :Zw (V.set n v)=Zw V:=by rw [J4 hv,h]; omega
def Hm (V W:List ZN) :Prop:=W.length=V.length/\Zw W=Zw V/\ ∀v ∈ W,Yp v
theorem Hm.refl {V:List ZN}(h: ∀v ∈ V,Yp v) :Hm V V:=⟨rfl,rfl,h⟩
theorem Hm.set {V W:List ZN}{n:Nat}{u v:ZN}(h:Hm V W)(hv:W[n]?=some u)(hb:v.bal=u.bal)(hf:Yp v) :Hm V (W.set n v):=
 ⟨by rw [Xb,h.1],by rw [sy hv hb,h.2.1],Kt h.2.2 hf⟩
theorem fC {ev:Int} : ∀(I:List Int) (V:List ZN),(∀v ∈ V,Yp v)->(∀i ∈ I,∃n:Nat,i=(n:Int)/\n < V.length)->Hm V (Rz ev V I)
 | [],V,h,_=>Hm.refl h
 | i::I,V,h,hI=>by
  obtain ⟨n,rfl,hn⟩:=hI i ZE;have hv:V[n]?=some (VW V (n:Int)):=by
   unfold VW; rw [Y7,Zo,Zg hn]; rfl
  have h1:Hm V (V.set n (ON ev (VW V n))):=(Hm.refl h).set hv rfl (WS (h _ (Xt hv)));have h2:=fC (ev:=ev) I (V.set n (ON ev (VW V n))) h1.2.2 (fun j hj=>by
   obtain ⟨m,e,hm⟩:=hI j Ng;exact ⟨m,e,by rw [Xb]; exact hm⟩)
  exact ⟨h2.1.trans h1.1,h2.2.1.trans h1.2.1,h2.2.2⟩
section
variable {N:Nat} {w0:FP} {w w' w1:Zc} {c:Nat->Int} {a:Pl} {q:Ql} {Z:Nat->Zc->(Nat->Prop)->Prop} {s s':Sg} {L L':List QZ}
theorem oC (w:Zc)(v:ZN) :(w.alloc (.cells (Ze ZU) 68)).setRow w.heap.size (Ze v)=w.alloc (.cells (Ze v) 68):=Zq _ _ _ _
theorem Zea (h:Eg N w0 w c a q Z s L){r:Nat}(GM:11<=r)(hr:r < N){I:List Int}{v:Zl}(hx:Z r=YU 3 1 v I.length (I.map (ZG .i64))){ev:Int}(hev:(YN .i64 ev).wf=true)
  (hI: ∀i ∈ I,∃n:Nat,i=(n:Int)/\n < s.V.length) (hf: ∀v ∈ s.V,Yp v) (ht:Zw s.V<=18446744073709551615) (hl:I.length<=100000) :
  Zv Zb 203 #[.pointer (some ⟨q.e,21,none⟩),.int .i64 ev,v] w fun e w'=>e= .returned (.tuple #[])/\Eg N w0 w' c a q Z { s with V:=Rz ev s.V I} L:=by
 have hN:=h.low;obtain ⟨ia,cp,rfl⟩:=XK (h.row GM hr hx);obtain ⟨n,hn⟩:=ZR (I.length);have HL: ∀k,Hm s.V (Rz ev s.V (I.take k)):=fun k=>fC _ _ hf fun i hi=>hI i (List.mem_of_mem_take hi)
 have HH:=Za h;have HI:=Za hI;have tF:=Za HL;have HT:=Za ht;have HX:=Za hx;have HN:=Za hn;have HNX:=Za (fun st w (hs:(YN .i64 st).wf=true)=>gS st ev w hs hev);have HB:=Za (Zm hN (Zm GM hr));rw [hn] at hl ⊢;clear h hI hf ht hx hn HL hev hN GM hr;go_enter func203,ntmps203;go_wp2_with fail;go_loopw [12] (fun s12 wr=> ∃(k:Nat),k<=n/\s12= .int .i64 k/\Zj (Eg N w0 wr c a q Z { s with V:=Rz ev s.V (I.take k)} L)) (fun s12 _=>n -(intOf s12).toNat)
 case atStart=>exact ⟨0,by omega,rfl,HH⟩
 case round=>
  obtain ⟨k,hk,rfl,HE⟩:=hrel
  by_cases XJ:k < n
  ·obtain ⟨i,hi⟩ : ∃i,I[k]?=some i:=⟨_,Zg dC⟩;obtain ⟨m,rfl,hm⟩:=HI.o i (List.mem_of_getElem? hi);obtain ⟨g,rfl,hc⟩:=cV (HE.o.row HB.o.2.1 HB.o.2.2 HX.o) (show (I.map (ZG .i64))[k]?=some (.int .i64 (m:Int)) by rw [ZM,hi]; rfl);obtain ⟨W,hW⟩:=ZR (Rz ev s.V (I.take k));have NX:=tF.o k;have Ff:=uT (ev:=ev) (V:=s.V) hi;rw [hW] at HE NX Ff;obtain ⟨u,hu⟩:=ZR (VW W (m:Int));have nZ:W[m]?=some u:=by
    rw [<-hu]; unfold VW; rw [Y7,Zo,Zg (by rw [NX.1]; exact hm)]; rfl
   rw [hu,Y7] at Ff;have ju:Yp u:=NX.2.2 u (Xt nZ);have y0:=Xx HE.o.blk 21;have HG:Zj (Z3 126 #[.pointer (some ⟨a.r,0,none⟩),.int .i64 (m:Int)] wr (.tuple #[.agg (Ze u),.bool true])):=Za (by
    obtain ⟨X,hX,Uz,hh,_⟩:=HE.o.open;exact hh.get_in Uz nZ)
   have HU:=Za (Zm nZ (Zm ju (Zm NX Ff)));have HNu:=Za (fun w=>HNX.o u.st w ju.2);clear hi hm hW NX Ff hu nZ ju;go_wp2_with fail;refine HG.o.mono ?_;rintro e w2 ⟨rfl,hb⟩;have E2:=HE.o.below hb;have E3:=Za (E2.box (Ze u) 68);have y1:(w2.alloc (.cells (Ze u) 68)).cell? ⟨w2.heap.size,1,none⟩=some (.int .i64 u.st):=(Zs w2 68 (Ze u)).cell 1;have z1:(w2.alloc (.cells (Ze u) 68)).frozen? ⟨w2.heap.size,1,none⟩=false:=(Zs w2 68 (Ze u)).frozen 1;clear hb E2 HG HE;go_wp2_with (first | (refine Up w2.heap.size (Ze u) 68 (ZB w2 _) Ya (Yi _) ?_; rw [Zq]));refine (HNu.o _).mono ?_;rintro e w3 ⟨rfl,hb⟩;have E4:=E3.o.below hb;have y2:w3.cell? ⟨w2.heap.size,1,none⟩=some (.int .i64 u.st):=(hb.cell (p:=⟨w2.heap.size,1,none⟩) ZE).trans y1;have z2:w3.frozen? ⟨w2.heap.size,1,none⟩=false:=(Zu.below (Zs w2 68 (Ze u)) hb ZE).frozen 1;have E5:=E4.setc (r:=N) HB.o.1 Zd Zr 1 (.int .i64 (Jz u.st ev));rw [show (Ze u).setIfInBounds 1 (.int .i64 (Jz u.st ev))=Ze (ON ev u) from rfl,XB] at E5;generalize w2.heap.size=zb at*;have hB5:=E5.blkAt (r:=N) HB.o.1 Zd Zr;have y3:(w3.setCell ⟨zb,1,none⟩ (.int .i64 (Jz u.st ev))).cell? ⟨q.e,21,none⟩=some (.pointer (some ⟨a.r,0,none⟩)):=E5.blk.cell 21;have H5:=Za E5;have HB5:=Za hB5;clear hb E3 E4 E5 hB5 y1 z1 HNu;go_wp2_with fail;clear y2 z2;generalize w3.setCell ⟨zb,1,none⟩ (.int .i64 (Jz u.st ev))=W5 at*;refine BU 6 ?_;refine BY ?_;refine Sk ?_;refine Jb 68 _ zb 68 (Ze (ON ev u)) _ rfl rfl rfl (fun w' h=>by obtain ⟨m,rfl⟩:=h; exact HB5.o) underlying68 rfl Ya ?_;refine X7 ?_;refine Yo ?_;intro _ JG;obtain ⟨nr,Xk⟩:=JG;subst Xk;obtain ⟨X,hX,Uz,hh,hK,_⟩:=H5.o.open;have hS:=(hh.drewN hX nr).set hX Uz (v':=ON ev u) HU.o.1 (WS HU.o.2.1) (by
    show Zw W - u.bal+u.bal<=_;have h1:=HU.o.2.2.1.2.1;have h2:=HT.o;omega)
   have HS:=Za hS;have HK:=Za hK;clear hX Uz hh hK hS H5 HB5;go_wp2_with fail;refine HS.o.mono ?_;rintro e w6 ⟨rfl,h6⟩;have h7:=(HK.o _ _ _ h6 rfl rfl).drop HB.o.1;have H7:Zj (Eg N w0 w6 c a q Z { s with V:=Rz ev s.V (I.take (k+1))} L):=Za (by rw [HU.o.2.2.2]; exact h7);clear h6 h7 HS HK HU y0 y3;go_wp2_with fail;go_roundw
   case rel=>exact ⟨k+1,by omega,by go_num,H7⟩
   case measure=>exact KX
  ·obtain rfl:k=n:=Zd;clear XJ;have XJ: ¬k < k:=Zd;have H7:Zj (Eg N w0 wr c a q Z { s with V:=Rz ev s.V I} L):=Za (by
    have:=HE.o;rwa [ZV dB] at this)
   exact pk
end
end
section
open Go Go.RowKit Go.Deep
def M7 (i:Nat) :Zl:= .int .i64 (i:Int)
section
variable {N:Nat} {w0:FP} {w w' w1:Zc} {c:Nat->Int} {a:Pl} {q:Ql} {Z:Nat->Zc->(Nat->Prop)->Prop} {s s':Sg} {L L':List QZ}
theorem Zed (h:Eg N w0 w c a q Z s L){st:Int}(GN:(YN .i64 st).wf=true)(hl:s.V.length<=100000) :
  Zv Zb 233 #[.pointer (some ⟨q.e,21,none⟩),.int .i64 st] w fun e w'=> ∃v,e= .returned v/\Eg (N+1) w0 w' c a q (ZK Z N (YU 3 1 v (M8 s.V st s.V.length).length ((M8 s.V st s.V.length).map M7))) s L/\w.heap.size<=w'.heap.size:=by
 have hN:=h.low;obtain ⟨i0,Oi,GO,GF,EO⟩:=Gj;have H0:=Za (h.nil 3 1);obtain ⟨n,hn⟩:=ZR (s.V.length);obtain ⟨ct,hct⟩ : ∃ct:Nat,(M8 s.V st n).length=ct:=⟨_,rfl⟩;have vz:Xj s.V st=(ct:Int):=by rw [<-hct,<-hn]; exact (ZdI s.V st).symm
 have HW:=Za (Zm hn (Zm hct vz));have HN:=Za hN;have HS:=Za GN;rw [hn] at hl ⊢;rw [hct];clear h GN hn hct vz hN;go_enter func233,ntmps233;go_wp2_with fail;go_loopw [5,6] (fun s5 s6 wr=> ∃(k qn:Nat) (a1:Option Addr) (c1:Nat),k<=n/\qn<=k/\qn<=ct/\s5= .slice a1 qn c1/\s6= .int .i64 k/\Zj ((M8 s.V st k).length=qn/\Eg (N+1) w0 wr c a q (ZK Z N (YU 3 1 (.slice a1 qn c1) qn ((M8 s.V st k).map M7))) s L)/\Zj (w.heap.size<=wr.heap.size)) (fun _ s6 _=>n -(intOf s6).toNat)
 case atStart=>exact ⟨0,0,none,0,by omega,by omega,by omega,rfl,rfl,Za ⟨rfl,H0.o⟩,Za (Zh _)⟩
 case round=>
  obtain ⟨k,qn,a1,c1,hk,hqk,hqc,rfl,rfl,HE,HZ⟩:=hrel;have y0:=Xx HE.o.2.blk 21;have HC:Zj (Y6 261 #[.pointer (some ⟨a.r,0,none⟩),.int .i64 st] wr (.int .i64 (ct:Int))):=Za (by
   obtain ⟨X,hX,Uz,hh,_⟩:=HE.o.2.open;have:=hh.count Uz HS.o;rw [HW.o.2.2] at this;exact this)
  by_cases hq:qn < ct
  ·have L4:k < n:=by
    rcases YI k n with h | h
    ·exact h
    ·have h1:=HE.o.1;rw [show k=n by omega,HW.o.2.1] at h1;omega
   obtain ⟨u,hu⟩:=ZR (s.V.getD k ZU);have nZ:s.V[k]?=some u:=by
    rw [<-hu,Zo,Zg (by rw [HW.o.1]; exact L4)]; rfl
   have HG:Zj (Z3 126 #[.pointer (some ⟨a.r,0,none⟩),.int .i64 (k:Int)] wr (.tuple #[.agg (Ze u),.bool true])):=Za (by
    obtain ⟨X,hX,Uz,hh,_⟩:=HE.o.2.open;exact hh.get_in Uz nZ)
   have Ff:=Cs s.V st k;rw [hu] at Ff;have pH:=Za Ff;clear hu nZ Ff;go_wp2_with fail;refine HC.o.mono ?_;rintro e w2 ⟨rfl,rfl⟩;go_wp2_with fail;refine HG.o.mono ?_;rintro e w2 ⟨rfl,hb⟩;have Dg:Zp wr.heap.size wr (w2.alloc (.cells (Ze u) 68)):=hb.alloc hb.size _;have E3:=Za (HE.o.2.below Dg);have L3:=Za (Zm HE.o.1 (ZZ HZ.o Dg.size));have y1:(w2.alloc (.cells (Ze u) 68)).cell? ⟨w2.heap.size,1,none⟩=some (.int .i64 u.st):=(Zs w2 68 (Ze u)).cell 1;clear hb Dg HG HE HC y0 HZ
   by_cases hs:u.st=st
   ·have d:(u.st==st)=true:=by simp [hs]
    rw [if_pos hs] at pH;rw [hs] at y1 d;clear hs;go_wp2_with (first | (refine Up w2.heap.size (Ze u) 68 (ZB w2 _) Ya (Yi _) ?_; rw [Zq]) | (at_builtin; refine Eg.grow E3.o HN.o (Nat.lt_succ_self N) Zr rfl _ _ 24 rfl i0 (.int .i64 0) 8 underlying24 Oi GO GF EO rfl Y5 rfl 1 #[.int .i64 (k:Int)] 3 _ ZE rfl rfl ?c1 ?c2 ?c3 ?_))
    case c1=>first | rfl | (intro u hu; simp at hu; subst hu; rfl)
    case c2=>unfold XL; omega
    case c3=>omega
    intro v' w4 E4 hle;obtain ⟨a2,c2,rfl⟩:=XK (E4.row HN.o (Nat.lt_succ_self N) Zr);rw [XB] at E4;have H4:Zj ((M8 s.V st (k+1)).length=qn+1/\Eg (N+1) w0 w4 c a q (ZK Z N (YU 3 1 (.slice a2 (qn+1) c2) (qn+1) ((M8 s.V st (k+1)).map M7))) s L):=Za ⟨by rw [pH.o,ZI,L3.o.1]; rfl,by rw [pH.o,Xv]; exact E4⟩;have HL4:Zj (w.heap.size<=w4.heap.size):=Za (ZZ L3.o.2 (by simpa using hle));clear E4 hle E3 L3 pH y1 d;go_wp2_with fail;go_roundw
    case rel=>exact ⟨k+1,qn+1,a2,c2,by omega,by omega,by omega,rfl,by go_num,H4,HL4⟩
    case measure=>exact KX
   ·have d:(u.st==st)=false:=by simp [hs]
    rw [if_neg hs] at pH;clear hs;have H4:Zj ((M8 s.V st (k+1)).length=qn/\Eg (N+1) w0 (w2.alloc (.cells (Ze u) 68)) c a q (ZK Z N (YU 3 1 (.slice a1 qn c1) qn ((M8 s.V st (k+1)).map M7))) s L):=Za ⟨by rw [pH.o,L3.o.1],by rw [pH.o]; exact E3.o⟩;have HL4:Zj (w.heap.size<=(w2.alloc (.cells (Ze u) 68)).heap.size):=Za L3.o.2;clear E3 L3 pH;go_wp2_with (first | (refine Up w2.heap.size (Ze u) 68 (ZB w2 _) Ya (Yi _) ?_; rw [Zq]));go_roundw
    case rel=>exact ⟨k+1,qn,a1,c1,by omega,by omega,by omega,rfl,by go_num,H4,HL4⟩
    case measure=>exact KX
  ·obtain rfl:qn=ct:=Zd;have H4:Zj (Eg (N+1) w0 wr c a q (ZK Z N (YU 3 1 (.slice a1 qn c1) qn ((M8 s.V st n).map M7))) s L):=Za (by
    have h1:=yv (V:=s.V) (st:=st) (n:=k) (by rw [HW.o.1]; exact hk) (by rw [HW.o.1,HW.o.2.1,HE.o.1]);rw [HW.o.1] at h1;rw [<-h1];exact HE.o.2)
   clear HE;go_wp2_with fail;refine HC.o.mono ?_;rintro e w2 ⟨rfl,rfl⟩;go_wp2_with fail;go_ret;exact ⟨_,rfl,H4.o,HZ.o⟩
end
end
section
open Go Go.RowKit Go.Deep
def FG (x:Int) :Zl:= .int .u64 x
theorem ud {V:List ZN}{k:Nat}{u:ZN}(h:V[k]?=some u) :((Qj V).map FG)[k]?=some (.int .u64 u.bal):=by
 unfold Qj; rw [List.map_map,ZM,h]; rfl
theorem FT (V:List ZN) :((Qj V).map FG).length=V.length:=by simp [Qj]
section
variable {N:Nat} {w0:FP} {w w' w1:Zc} {c:Nat->Int} {a:Pl} {q:Ql} {Z:Nat->Zc->(Nat->Prop)->Prop} {s s':Sg} {L L':List QZ}
theorem Zd8 (h:Eg N w0 w c a q Z s L)(hl:s.V.length<=100000) :
  Zv Zb 201 #[.pointer (some ⟨q.e,21,none⟩)] w fun e w'=> ∃v,e= .returned v/\Eg (N+1) w0 w' c a q (ZK Z N (YU 23 1 v s.V.length ((Qj s.V).map FG))) s L/\w.heap.size<=w'.heap.size:=by
 have hN:=h.low;have y0:=Xx h.blk 21;obtain ⟨n,hn⟩:=ZR (s.V.length);have Ew:=Ha n Zd w;have H0:Zj (Eg (N+1) w0 (w.alloc (.cells (Ut (ZD n 0)) 23)) c a q (ZK Z N (Xm w.heap.size 23 (Kp ((Qj s.V).map FG) (.int .u64 0) 0).toArray)) s L):=Za (by
  have:=h.box (Ut (ZD n 0)) 23;rw [show (Kp ((Qj s.V).map FG) (.int .u64 0) 0).toArray=Ut (ZD n 0) by rw [Oe,FT,hn]; simp [Ut]];exact this)
 have HG:Zj (Y6 120 #[.pointer (some ⟨a.r,0,none⟩)] w (.int .i64 (n:Int))):=Za (by
  obtain ⟨X,hX,Uz,hh,_⟩:=h.open;have:=hh.len Uz;rwa [hn] at this)
 have HN:=Za hN;have HV:=Za hn;have CK:Zj (w.heap.size<=(w.alloc (.cells (Ut (ZD n 0)) 23)).heap.size):=Za ZE;rw [hn] at hl ⊢;clear h hn hN;go_enter func201,ntmps201;go_wp2_with fail;refine HG.o.mono ?_;rintro e w2 ⟨rfl,rfl⟩;clear HG;go_wp2_with fail;clear Ew;generalize hz:w.heap.size=z at*;have HZZ:=Za hz;clear hz;generalize w.alloc (.cells (Ut (ZD n 0)) 23)=W at*;clear y0;go_loopw [15] (fun s15 wr=> ∃(k:Nat),k<=n/\s15= .int .i64 k/\Zj (Eg (N+1) w0 wr c a q (ZK Z N (Xm z 23 (Kp ((Qj s.V).map FG) (.int .u64 0) k).toArray)) s L)/\Zj (z<=wr.heap.size)) (fun s15 _=>n -(intOf s15).toNat)
 case atStart=>exact ⟨0,by omega,rfl,H0,CK⟩
 case round=>
  obtain ⟨k,hk,rfl,HE,HZ⟩:=hrel
  by_cases XJ:k < n
  ·obtain ⟨u,hu⟩ : ∃u,s.V[k]?=some u:=⟨_,Zg (by rw [HV.o]; exact XJ)⟩;have y0:=Xx HE.o.blk 21;have HG:Zj (Z3 126 #[.pointer (some ⟨a.r,0,none⟩),.int .i64 (k:Int)] wr (.tuple #[.agg (Ze u),.bool true])):=Za (by
    obtain ⟨X,hX,Uz,hh,_⟩:=HE.o.open;exact hh.get_in Uz hu)
   have HS:Zj (((Kp ((Qj s.V).map FG) (.int .u64 0) k).toArray.setIfInBounds k (.int .u64 u.bal))=(Kp ((Qj s.V).map FG) (.int .u64 0) (k+1)).toArray/\(Kp ((Qj s.V).map FG) (.int .u64 0) k).length=n):=Za ⟨by
    rw [List.setIfInBounds_toArray,qM (ud hu)],by rw [RD (by rw [FT,HV.o]; exact hk),FT,HV.o]⟩
   clear hu;go_wp2_with fail;refine HG.o.mono ?_;rintro e w2 ⟨rfl,hb⟩;have Dg:Zp wr.heap.size wr (w2.alloc (.cells (Ze u) 68)):=hb.alloc hb.size _;have E3:=HE.o.below Dg;have y1:(w2.alloc (.cells (Ze u) 68)).cell? ⟨w2.heap.size,0,none⟩=some (.int .u64 u.bal):=(Zs w2 68 (Ze u)).cell 0;have hB:=E3.blkAt (r:=N) HN.o Zd Zr;obtain ⟨uu,hc⟩ : ∃uu,(w2.alloc (.cells (Ze u) 68)).cell? ⟨z,k,none⟩=some uu:=⟨_,(hB.cell k).trans (by rw [XG,Zg (by rw [HS.o.2]; exact XJ)])⟩;have hfz:(w2.alloc (.cells (Ze u) 68)).frozen? ⟨z,k,none⟩=false:=hB.frozen k;have H4:Zj (Eg (N+1) w0 ((w2.alloc (.cells (Ze u) 68)).setCell ⟨z,k,none⟩ (.int .u64 u.bal)) c a q (ZK Z N (Xm z 23 (Kp ((Qj s.V).map FG) (.int .u64 0) (k+1)).toArray)) s L):=Za (by
    have h4:=E3.setc (r:=N) HN.o Zd Zr k (.int .u64 u.bal);rwa [HS.o.1,XB] at h4)
   have HZ4:Zj (z<=((w2.alloc (.cells (Ze u) 68)).setCell ⟨z,k,none⟩ (.int .u64 u.bal)).heap.size):=Za (by have:=HZ.o; have:=Dg.size; simp at this ⊢; omega);clear hb Dg E3 hB HS HG HE y0;go_wp2_with (first | (refine Up w2.heap.size (Ze u) 68 (ZB w2 _) Ya (Yi _) ?_; rw [Zq]));exact Zfa
  ·obtain rfl:k=n:=Zd;clear XJ;have XJ: ¬k < k:=Zd;have H7:Zj (Eg (N+1) w0 wr c a q (ZK Z N (YU 23 1 (.slice (some ⟨z,0,none⟩) k k) k ((Qj s.V).map FG))) s L):=Za (by
    have h1:=HE.o;rw [show k=((Qj s.V).map FG).length by rw [FT,HV.o],RA] at h1;have h2:=h1.torow (r:=N) (k:=1) (n:=k) HN.o Zd Zr (by rw [FT,HV.o,Nat.mul_one]) Vx;rwa [XB] at h2)
   exact yS
end
end
end Go.Proofs.YtobgbcdgffgdhaaGreat
