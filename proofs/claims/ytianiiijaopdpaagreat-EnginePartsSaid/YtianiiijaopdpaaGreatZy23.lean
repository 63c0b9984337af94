/- Part 23 of 29: Pts En En2 Eg Mk Qs Go1 Go2 Go3 Go4 Go5. -/
import Derived.Test.YtianiiijaopdpaaGreatZy00
import Derived.Test.YtianiiijaopdpaaGreatZy10
import Derived.Test.YtianiiijaopdpaaGreatZy17
import Derived.Test.YtianiiijaopdpaaGreatZy22
namespace Go.Proofs.YtianiiijaopdpaaGreat
set_option linter.unusedVariables false
set_option linter.unusedSimpArgs false
set_option maxRecDepth 100000
set_option maxHeartbeats 8000000
open _root_.And renaming intro → Zh
open _root_.Array renaming all_eq_true_iff_forall_mem → ZT, getElem?_eq_some_iff → Yu
open _root_.Go.RowKit renaming Below → Zs
open _root_.Go.RowKit.Below renaming refl → Zp
open _root_.Go.Proofs.YtianiiijaopdpaaGreat.Blk renaming new → Zv
open _root_.Go renaming Calls → Zj, TypeId → ZN, Value → Zl, World → Zc, heap_alloc_new → ZG, maxLen → Jp, wpList_store_row → Zo
open _root_.Iff renaming rfl → Vv
open _root_.Go.Instr renaming makeSlice → V5
open _root_.Int renaming toNat_natCast → YX
open _root_.Go.Proofs.YtianiiijaopdpaaGreat.Kept renaming of_below → YP, of_grown → Xu, refl → ZH, setCell → Qq
open _root_.Go.Lib renaming hid → Za
open _root_.List renaming eq_nil_of_length_eq_zero → ZU, getD_eq_getElem?_getD → Zq, getElem?_eq_getElem → Zf, getElem?_eq_some_iff → Zi, getElem?_map → ZP, getElem?_toArray → YL, length_append → ZE, length_set → Xt, length_take → Xl, map_append → XS, map_replicate → GF, range_succ → Gu, replicate → Zy, take_add_one → YR, take_of_length_le → Yv
open _root_.Go.Lit renaming int → Xg
open _root_.Nat renaming le_refl → Zg, le_trans → Z9, lt_or_ge → Ys, min_eq_left → Gv, zero_add → ZX, zero_le → XL
open _root_.Option.some renaming inj → ZS
open _root_.Option renaming toList_some → Qt
open _root_.Go.Proofs.YtianiiijaopdpaaGreat.Rq renaming row → Us
open _root_.Go.Proofs.Tryz renaming prog → Zb, underlying37 → ZV, underlying42 → Yb
open _root_.Go.Value renaming int → ZR, ownBlock → Y4, slice → Yj
open _root_.Go.World renaming setRow_alloc_new → Zu
theorem Rs {G:Prop}(h:G:=by simpa using hv) :G:=h
theorem Ug {G:Prop}(h:G:=by rw [xput_ne Ze,xput_same]) :G:=h
theorem JG {G H:Prop} (k:H) (h:BZ H→G:=by
  intro zk;try simp only [qA]
  exact zk.out) :G:=h ⟨k⟩
theorem gL {G H:Prop} (k:H) (h:BZ H→G:=by
  intro zk;iterate 7 (go_big_quiet_step ((intros; rfl)))
  exact zk.out) :G:=h ⟨k⟩
theorem ZfD {G:Prop} (h:G:=by
  go_upto_region 1 with (fail);generalize w.alloc (.cells (Zd v') 63)=W at*;refine wqT 6 ?_;refine BA ?_;refine TJ ?_;refine Jw 63 _ w.heap.size 63 (Zd v') _ rfl rfl rfl (fun w' h=>by obtain ⟨m,rfl⟩:=h; exact HB.out) Tryz.underlying63 rfl Ym ?_;refine Qe ?_;refine Qc ?_;intro _ JB;obtain ⟨nr,Xh⟩:=JB;subst Xh;go_wp2_with fail;refine (H.out nr).mono ?_;rintro e w2 ⟨rfl,h2⟩;have h3:=HK.out _ _ _ h2 rfl rfl;have y1:w2.cell? ⟨q.e,22,none⟩=some (.pointer (some ⟨a.l,0,none⟩)):=h3.blk.cell 22;obtain ⟨X2,hX2,hN2,hh2,Wb,_⟩:=h3.open;have H2:=Lib.hid (HP.out _ _ hX2 hh2);have M4:=Lib.hid Wb;clear h2 h3 hX2 hN2 hh2 Wb H HP HK y0;go_wp2_with fail;refine H2.out.mono ?_;rintro e w3 ⟨rfl,h4⟩;have h4:=Lib.hid ((M4.out _ _ _ h4 rfl rfl).drop HN.out);clear M4 H2;go_wp2_with fail;go_end0;exact ⟨rfl,h4.out⟩) :G:=h
theorem Zcw {G:Prop} (h:G:=by
  rintro e w' ⟨rfl,h2,h3⟩;refine ⟨rfl,h.turn hX (show 1 < N by omega) (fun j hj=>?_) fun S hS=>⟨S,⟨h2,hS.2⟩,fun i hi=> .inl hi,kept_one h3 hS.2⟩⟩
  rcases j with _ | _ | _ | _ | _ | _ | _ | _ | j <;> first | rfl | exact absurd rfl hj) :G:=h
theorem Zge {G:Prop} (h:G:=by
  rintro e w' ⟨rfl,h1,h2⟩;exact ⟨rfl,h'.more stays_block (S':=fun i=>i=w.heap.size) ⟨h1,fun i=>Iff.rfl⟩ (fun i hi=>Nat.le_of_eq hi.symm) h2,h2⟩) :G:=h
theorem Zgq {G:Prop} (h:G:=by
  rcases g4 with g4 | g4
  ·rw [g4] at hj; exact .inl ((hS.2 j).2 hj)
  ·rw [g4] at hj; injection hj with hj; exact .inr (Nat.le_of_eq hj)) :G:=h
theorem ZcD {G:Prop} (h:G:=by
  rintro e w' ⟨v,rfl,h1,h2⟩;exact ⟨v,rfl,h.more hX hN stays_row (row_zero h1) (fun i hi=>(owns_lt h1 i hi).1) h2,h2⟩) :G:=h
theorem Zgz {G:Prop} (h:G:=by
  rw [Sj] at hK;refine hK.mono ?_;rintro e w' ⟨rfl,go',h1,h2,h3⟩;exact ⟨rfl,go',by simpa using h1,h2,h3⟩) :G:=h
theorem ZgF {G:Prop} (h:G:=by
  go_wp2_with fail;refine H.out.mono ?_;rintro e w' ⟨rfl,m,rfl⟩;go_wp2_with fail;go_ret;exact ⟨rfl,m,rfl⟩) :G:=h
theorem zn {G:Prop} (h:G:=by
  go_roundw
  case rel=>exact ⟨k+1,by omega,by go_num,H4,HZ4⟩
  case measure=>simp [intOf]; omega) :G:=h
theorem zw {G:Prop} (h:G:=by
  rw [el,←e2] at h2;exact h.setr UP hr hx h2 (Kept.setCells _ _ _ (Kept.refl _ _) (.inl rfl))) :G:=h
theorem rQ {G:Prop} (h:G:=by
  clear HE;go_wp2_with fail;go_ret;exact ⟨_,rfl,H7.out,by rw [HZZ.out]; exact HZ.out⟩) :G:=h
theorem TL {G:Prop} (h:G:=by
  rcases j with _ | _ | _ | _ | _ | _ | _ | _ | j <;> first | rfl | exact absurd rfl hj) :G:=h
theorem zL {G:Prop} (h:G:=by
  subst Mi;rw [Xf] at hi;exact .inr (Nat.le_trans g2.size (hS i hi))) :G:=h
theorem zT {G:Prop} (h:G:=by
  obtain ⟨S,hp,_⟩:=h.part hr;rw [pt_high h8,hx] at hp;exact hp.1) :G:=h
theorem jx {G:Prop} (h:G:=by
  clear HE;go_wp2_with fail;go_end0;exact ⟨rfl,H7.out⟩) :G:=h
theorem so {G:Prop} (h:G:=by
  rw [fput_other Mi] at hi;exact g1 j Ze i hi) :G:=h
theorem jB {G:Prop} (h:G:=by
  rw [JP,List.append_assoc];rfl) :G:=h
section
open Go Go.RowKit
structure Pl where
 c:Nat
 l:Nat
 r:Nat
 u:Nat
 k:Nat
 m:Nat
 n:Nat
 p:Nat
def BV (R E k b size c:Nat)(F:List Zl) :Zc→(Nat→Prop)→Prop:=fun w S=> ∃go,RingAt R E k w b go size c F∧ ∀i,S i ↔ Foot b go i
def Pt (cf:Nat→Int)(a:Pl)(X:Nat→Zc→(Nat→Prop)→Prop)(s:Sg)(L:List QT) :Nat→Zc→(Nat→Prop)→Prop
 | 0=>fun w S=>DQ w a.c s.bk (cf 13)∧ ∀i,S i ↔ i=a.c
 | 1=>fun w S=>KR w a.l s.D s.P s.B (cf 4)∧ ∀i,S i ↔ i=a.l
 | 2=>fun w S=>Fh w a.r S (cf 0).toNat s.V
 | 3=>fun w S=>GX w a.u S (cf 12).toNat L
 | 4=>fun w S=>mF w a.k s.cu∧ ∀i,S i ↔ i=a.k
 | 5=>fun w S=>(∃Sp T D,Vd w a.m s.cy Sp T D∧Jq s.cy Sp T D)∧ ∀i,S i ↔ i=a.m
 | 6=>fun w S=>Ln w a.n S (cf 1).toNat s.F s.W
 | 7=>BV 189 3 1 a.p (cf 1).toNat s.pd.length (s.pd.map (ZR .i64))
 | k=>X k
section
variable {cf:Nat→Int} {a:Pl} {X:Nat→Zc→(Nat→Prop)→Prop} {s:Sg} {L:List QT}
theorem GL {R E k b size c:Nat}{F:List Zl} :Xa (BV R E k b size c F):=by
 refine ⟨fun w S h i hi=>?_,fun w w' S T h hk hT=>?_⟩
 ·obtain ⟨go,h1,h2⟩:=h;exact h1.lt i ((h2 i).1 hi)
 ·obtain ⟨go,h1,h2⟩:=h;exact ⟨go,h1.kept hk (fun i hi=>hT i ((h2 i).2 hi)),h2⟩
theorem Xo (hX: ∀k,8≤k→Xa (X k)) : ∀k,Xa (Pt cf a X s L k)
 | 0=>By
 | 1=>By
 | 2=>⟨fun w S h i hi=>h.lt i hi,fun w w' S T h hk hT=>h.kept hk hT⟩
 | 3=>⟨fun w S h i hi=>h.lt i hi,fun w w' S T h hk hT=>h.kept hk hT⟩
 | 4=>By
 | 5=>by
  refine ⟨fun w S h i hi=>?_,fun w w' S T h hk hT=>?_⟩
  ·obtain ⟨⟨Sp,T,D,h1,_⟩,h2⟩:=h;rw [(h2 i).1 hi]; exact h1.lt
  ·obtain ⟨⟨Sp,T',D,h1,hf⟩,h2⟩:=h;exact ⟨⟨Sp,T',D,h1.kept hk (hT _ ((h2 _).2 rfl)),hf⟩,h2⟩
 | 6=>⟨fun w S h i hi=>h.lt i hi,fun w w' S T h hk hT=>h.kept hk hT⟩
 | 7=>GL
 | k+8=>hX (k+8) Ze
end
end
section
open Go Go.RowKit
structure DR where
 T:Nat→Prop
 w:Zc
def PA (o:DR)(i:Nat) :Prop:=o.T i∨o.w.heap.size≤i
def En (N:Nat)(w0:DR)(w:Zc)(cf:Nat→Int)(a:Pl)(X:Nat→Zc→(Nat→Prop)→Prop)(s:Sg)(L:List QT) :Prop:=
 ∃Φ,Fam N (Pt cf a X s L) Φ w∧(∀k,k < N→ ∀i,Φ k i→PA w0 i)∧Kept w0.T w0.w w
section
variable {N:Nat} {w0:DR} {w w':Zc} {cf:Nat→Int} {a:Pl} {X:Nat→Zc→(Nat→Prop)→Prop} {s s':Sg} {L L':List QT}
theorem Km {T:Nat→Prop}(hb:Kept w0.T w0.w w)(hk:Kept T w w')(hT: ∀i,T i→PA w0 i) :Kept w0.T w0.w w':=hb.trans hk fun i h1 h2=>(hT i h2).resolve_right Ze
theorem En.below (h:En N w0 w cf a X s L)(hX: ∀k,8≤k→Xa (X k))(hb:Zs w.heap.size w w') :En N w0 w' cf a X s L:=by
 obtain ⟨Φ,F,h1,h2⟩:=h;exact ⟨Φ,F.below (fun j _=>Xo hX j) hb,h1,h2.trans (YP (S:=fun _=>False) hb) (fun _ _ h=>h.elim)⟩
theorem En.turn (h:En N w0 w cf a X s L)(hX: ∀k,8≤k→Xa (X k)){k:Nat}(hk:k < N)(GU: ∀j,j≠k→Pt cf a X s' L' j=Pt cf a X s L j)
  (hn: ∀S,Pt cf a X s L k w S→ ∃S',Pt cf a X s' L' k w' S'∧(∀i,S' i→S i∨w.heap.size≤i)∧Kept S w w') :En N w0 w' cf a X s' L':=by
 obtain ⟨Φ,F,h1,h2⟩:=h;obtain ⟨S',p1,p2,p3⟩:=hn _ (F.part k hk);refine ⟨_,F.turn (fun j _=>Xo hX j) hk (fun j _ hj=>GU j hj) (Xo hX k) p1 p2 p3,fun j hj i hi=>?_,Km h2 p3 (h1 k hk)⟩
 by_cases EU:j=k
 ·subst EU;rw [Xf] at hi
  rcases p2 i hi with h3 | h3
  ·exact h1 j hj i h3
  ·exact .inr (Z9 h2.size h3)
 ·rw [fput_other EU] at hi;exact h1 j hj i hi
theorem En.part (h:En N w0 w cf a X s L){k:Nat}(hk:k < N) : ∃S,Pt cf a X s L k w S∧ ∀i,S i→PA w0 i:=by
 obtain ⟨Φ,F,h1,_⟩:=h;exact ⟨Φ k,F.part k hk,h1 k hk⟩
theorem Fx {Φ:Nat→Nat→Prop}{S':Nat→Prop}(g1: ∀k,k < N→ ∀i,Φ k i→PA w0 i)(g2:Kept w0.T w0.w w){k:Nat}(hk:k < N)(hS: ∀i,S' i→Φ k i∨w.heap.size≤i) : ∀j,j < N→ ∀i,Dc Φ k S' j i→PA w0 i:=fun j hj i hi=>by
 by_cases EU:j=k
 ·subst EU;rw [Xf] at hi
  rcases hS i hi with h | h
  ·exact g1 j hj i h
  ·exact .inr (Z9 g2.size h)
 ·rw [fput_other EU] at hi;exact g1 j hj i hi
theorem kept_one {b:Nat}{S:Nat→Prop}(hg:w.grownBy w' (some b))(hS: ∀i,S i ↔ i=b) :Kept S w w':=Xu hg (fun i hi=>(hS i).2 (ZS hi))
theorem En.tick (h:En N w0 w cf a X s L)(hX: ∀k,8≤k→Xa (X k))(hN:8≤N)(h0:0≤s.bk)(h1:s.bk≤9223372036854775806)(hL:1≤cf 13) :
  Zj Zb 208 #[.pointer (some ⟨a.c,0,none⟩)] w fun e w'=>e= .returned (.bool ((s.bk+1)%cf 13==0))∧En N w0 w' cf a X { s with bk:=s.bk+1} L:=by
 obtain ⟨S,hp,_⟩:=h.part (show 0 < N by omega);refine (xo a.c s.bk (cf 13) w h0 h1 hL hp.1).mono ?_;rintro e w' ⟨rfl,h2,h3⟩;refine ⟨rfl,h.turn hX (show 0 < N by omega) (fun j hj=>?_) fun S hS=>⟨S,⟨h2,hS.2⟩,fun i hi=> .inl hi,kept_one h3 hS.2⟩⟩;exact TL
theorem En.block (h:En N w0 w cf a X s L)(hN:8≤N) :Zj Zb 107 #[.pointer (some ⟨a.c,0,none⟩)] w fun e w'=>e= .returned (.int .i64 s.bk)∧w=w':=by
 obtain ⟨S,hp,_⟩:=h.part (show 0 < N by omega);exact jU a.c s.bk (cf 13) w hp.1
theorem En.epoch (h:En N w0 w cf a X s L)(hN:8≤N)(h0:0≤s.bk)(h1:s.bk≤9223372036854775807)(hL:1≤cf 13)(he:s.ep=s.bk/cf 13) :
  Zj Zb 108 #[.pointer (some ⟨a.c,0,none⟩)] w fun e w'=>e= .returned (.int .i64 s.ep)∧ ∃m,w'=w.drewN m:=by
 obtain ⟨S,hp,_⟩:=h.part (show 0 < N by omega);have:=ko a.c s.bk (cf 13) w h1 hp.1;rw [OW h0 hL,←he] at this;exact this
theorem En.deposit (h:En N w0 w cf a X s L)(hX: ∀k,8≤k→Xa (X k))(hN:8≤N)(hF:JJ s.D s.P s.B (cf 4)){x:Int}(x0:0≤x)(hx:x≤cf 4 -(s.D - s.P - s.B))(ho:s.D+x≤18446744073709551615) :
  Zj Zb 180 #[.pointer (some ⟨a.l,0,none⟩),.int .u64 x] w fun e w'=>e= .returned (.int .i64 0)∧En N w0 w' cf a X { s with D:=s.D+x} L:=by
 obtain ⟨S,hp,_⟩:=h.part (show 1 < N by omega);refine (dF a.l s.D s.P s.B (cf 4) x w hp.1 hF x0 hx ho).mono ?_;exact Zcw
theorem En.pay (h:En N w0 w cf a X s L)(hX: ∀k,8≤k→Xa (X k))(hN:8≤N)(hF:JJ s.D s.P s.B (cf 4)){x:Int}(x0:0≤x)(hx:x≤s.D - s.P - s.B) :
  Zj Zb 269 #[.pointer (some ⟨a.l,0,none⟩),.int .u64 x] w fun e w'=>e= .returned (.int .i64 0)∧En N w0 w' cf a X { s with P:=s.P+x} L:=by
 obtain ⟨S,hp,_⟩:=h.part (show 1 < N by omega);refine (we a.l s.D s.P s.B (cf 4) x w hp.1 hF x0 hx).mono ?_;exact Zcw
theorem En.burn (h:En N w0 w cf a X s L)(hX: ∀k,8≤k→Xa (X k))(hN:8≤N)(hF:JJ s.D s.P s.B (cf 4)){x:Int}(x0:0≤x)(hx:x≤s.D - s.P - s.B) :
  Zj Zb 195 #[.pointer (some ⟨a.l,0,none⟩),.int .u64 x] w fun e w'=>e= .returned (.int .i64 0)∧En N w0 w' cf a X { s with B:=s.B+x} L:=by
 obtain ⟨S,hp,_⟩:=h.part (show 1 < N by omega);refine (od a.l s.D s.P s.B (cf 4) x w hp.1 hF x0 hx).mono ?_;exact Zcw
theorem En.set (h:En N w0 w cf a X s L)(hX: ∀k,8≤k→Xa (X k))(hN:8≤N){n:Nat}{v v':Yd}(hv:s.V[n]?=some v)(hf:Yo v')(ht:Zz s.V - v.bal+v'.bal≤18446744073709551615) :
  Zj Zb 187 #[.pointer (some ⟨a.r,0,none⟩),.int .i64 (n:Int),.agg (Zd v')] w fun e w'=>e= .returned (.int .i64 0)∧En N w0 w' cf a X { s with V:=s.V.set n v'} L:=by
 obtain ⟨S0,hp0,_⟩:=h.part (show 2 < N by omega);obtain ⟨Φ,F,g1,g2⟩:=h;have hp:=F.part 2 (show 2 < N by omega);refine (q6 a.r (cf 0).toNat (Φ 2) n s.V v' w hp hf).mono ?_;rintro e w' (⟨h1,_⟩ | ⟨k,Qo,h1,h2,h3⟩)
 ·have:=(Zi.1 hv).1; omega
 ·obtain rfl:n=k:=by omega
  rw [hv] at h2;obtain rfl:=ZS h2
  rcases h3 with ⟨_,rfl,h4,h5⟩ | ⟨h3,_⟩
  ·refine ⟨rfl,Dc Φ 2 (Φ 2),F.turn (fun j _=>Xo hX j) (show 2 < N by omega) (fun j _ hj=>?_) (Xo hX 2) h4 (fun i hi=> .inl hi) h5,fun j hj i hi=>?_,Km g2 h5 (g1 2 Ze)⟩
   ·exact TL
   ·by_cases yO:j=2
    ·subst yO; rw [Xf] at hi; exact g1 2 hj i hi
    ·rw [fput_other yO] at hi; exact g1 j hj i hi
  ·omega
theorem En.add (h:En N w0 w cf a X s L)(hX: ∀k,8≤k→Xa (X k))(hN:8≤N){v:Yd}(hf:Yo v)(hl:(s.V.length:Int)< cf 0)(ht:Zz s.V+v.bal≤18446744073709551615) :
  Zj Zb 181 #[.pointer (some ⟨a.r,0,none⟩),.agg (Zd v)] w fun e w'=>e= .returned (.tuple #[.int .i64 s.V.length,.int .i64 0])∧En N w0 w' cf a X { s with V:=s.V++[v]} L:=by
 obtain ⟨Φ,F,g1,g2⟩:=h;refine (nB a.r (cf 0).toNat (Φ 2) s.V v w (F.part 2 (show 2 < N by omega)) hf).mono ?_;rintro e w' (⟨h1,_⟩ | ⟨_,h1,_⟩ | ⟨_,_,rfl,S',h3,h4,h5⟩)
 ·omega
 ·omega
 ·refine ⟨rfl,Dc Φ 2 S',F.turn (fun j _=>Xo hX j) (show 2 < N by omega) (fun j _ hj=>?_) (Xo hX 2) h3 h4 h5,Fx g1 g2 (show 2 < N by omega) h4,Km g2 h5 (g1 2 Ze)⟩;exact TL
def YK (e:ZN)(k:Nat)(v:Zl)(n:Nat)(xs:List Zl) :Zc→(Nat→Prop)→Prop:=fun w S=>w.ownsRow 0 e k v n xs∧ ∀i,S i ↔ v.ownBlock=some i
theorem owns_lt {base n k:Nat}{e:ZN}{v:Zl}{xs:List Zl}(h:w.ownsRow base e k v n xs) : ∀i,v.ownBlock=some i→base≤i∧i < w.heap.size:=by
 rcases h.2 with ⟨rfl,h2⟩ | ⟨g,cp,cur,rfl,h1,h3,h4,h5,h6,h7⟩
 ·intro i hi; simp [Y4] at hi
 ·intro i hi;obtain rfl:g=i:=ZS hi;exact ⟨h1,(Yu.1 h3).1⟩
theorem stays_row {e:ZN}{k n:Nat}{v:Zl}{xs:List Zl} :Xa (YK e k v n xs):=
 ⟨fun w S h i hi=>(owns_lt h.1 i ((h.2 i).1 hi)).2,fun w w' S T h hk hT=>⟨EX h.1 hk (fun g hg=>hT g ((h.2 g).2 hg)),h.2⟩⟩
def YW (g t:Nat)(cs:Array Zl) :Zc→(Nat→Prop)→Prop:=fun w S=>Blk w g t cs∧ ∀i,S i ↔ i=g
theorem stays_block {g t:Nat}{cs:Array Zl} :Xa (YW g t cs):=By
def ZD (X:Nat→Zc→(Nat→Prop)→Prop)(N:Nat)(Q:Zc→(Nat→Prop)→Prop) :Nat→Zc→(Nat→Prop)→Prop:=fun k=>if k=N then Q else X k
theorem xput_same {Q:Zc→(Nat→Prop)→Prop} :ZD X N Q N=Q:=if_pos rfl
theorem gi {Q:Zc→(Nat→Prop)→Prop}(hX: ∀k,8≤k→Xa (X k))(hQ:Xa Q) : ∀k,8≤k→Xa (ZD X N Q k):=fun k hk=>by
 unfold ZD; split
 ·exact hQ
 ·exact hX k hk
theorem pt_high {k:Nat}(hk:8≤k) :Pt cf a X s L k=X k:=by
 obtain ⟨j,rfl⟩ : ∃j,k=j+8:=⟨k - 8,by omega⟩;rfl
theorem Eb {Q:Zc→(Nat→Prop)→Prop}(hN:8≤N) : ∀j,j < N→Pt cf a (ZD X N Q) s L j=Pt cf a X s L j:=fun j hj=>by
 rcases Ys j 8 with h | h
 ·rcases j with _ | _ | _ | _ | _ | _ | _ | _ | j <;> first | rfl | omega
 ·rw [pt_high h,pt_high h];exact if_neg Ze
theorem En.more (h:En N w0 w cf a X s L)(hX: ∀k,8≤k→Xa (X k))(hN:8≤N){Q:Zc→(Nat→Prop)→Prop}(hQ:Xa Q){S':Nat→Prop}(hq:Q w' S')(hS: ∀i,S' i→w.heap.size≤i)(hb:Zs w.heap.size w w') :En (N+1) w0 w' cf a (ZD X N Q) s L:=by
 obtain ⟨Φ,F,g1,g2⟩:=h;have kV:Pt cf a (ZD X N Q) s L N w' S':=by rw [pt_high hN,xput_same]; exact hq
 refine ⟨Dc Φ N S',F.more (P':=Pt cf a (ZD X N Q) s L) (fun j _=>Xo hX j) (Xo (gi hX hQ) N) (Eb hN) kV hS hb,fun j hj i hi=>?_,g2.trans (YP (S:=fun _=>False) hb) (fun _ _ h=>h.elim)⟩
 by_cases Mi:j=N
 ·exact zL
 ·exact so
theorem En.less (h:En (N+1) w0 w cf a X s L) :En N w0 w cf a X s L:=by
 obtain ⟨Φ,F,g1,g2⟩:=h;exact ⟨Φ,F.less fun _ _=>rfl,fun k hk=>g1 k Ze,g2⟩
theorem ij {Φ:Nat→Nat→Prop}{S':Nat→Prop}{k:Nat}{e:ZN}{kk n:Nat}{v:Zl}{xs:List Zl}(XP: ∀j,j < N→ ∀i,Φ j i→i < w.heap.size)
  (ho:w'.ownsRow w.heap.size e kk v n xs) (hd: ∀i,S' i→i < w.heap.size∨v.ownBlock≠some i) : ∀j,j < N→ ∀i,Dc Φ k S' j i→ ¬v.ownBlock=some i:=fun j hj i hi hv=>by
 have:=(owns_lt ho i hv).1
 by_cases EU:j=k
 ·subst EU;rw [Xf] at hi
  rcases hd i hi with h1 | h1
  ·omega
  ·exact h1 hv
 ·rw [fput_other EU] at hi;have:=XP j hj i hi;omega
theorem row_zero {e:ZN}{base k n:Nat}{v:Zl}{xs:List Zl}(h:w.ownsRow base e k v n xs) :YK e k v n xs w (fun i=>v.ownBlock=some i):=⟨GV h (XL _),fun i=>Vv⟩
theorem En.row (h:En N w0 w cf a X s L){r:Nat}(h8:8≤r)(hr:r < N){e:ZN}{kk n:Nat}{v:Zl}{xs:List Zl}(hx:X r=YK e kk v n xs) :w.ownsRow 0 e kk v n xs:=by
 exact zT
theorem En.all (h:En N w0 w cf a X s L)(hX: ∀k,8≤k→Xa (X k))(hN:8≤N) :
  Zj Zb 55 #[.pointer (some ⟨a.r,0,none⟩)] w fun e w'=> ∃v,e= .returned v∧En (N+1) w0 w' cf a (ZD X N (YK 63 7 v s.V.length (XD s.V))) s L∧Zs w.heap.size w w':=by
 obtain ⟨S,hp,_⟩:=h.part (show 2 < N by omega);refine (ud a.r (cf 0).toNat S s.V w hp).mono ?_;exact ZcD
theorem En.put (h:En N w0 w cf a X s L)(hX: ∀k,8≤k→Xa (X k))(hN:8≤N){ep it:Int}(h0:0≤ep)(h1:ep≤1099511627776)(hL:L.length≤100000) :
  Zj Zb 196 #[.pointer (some ⟨a.u,0,none⟩),.int .i64 ep,.int .i64 it] w fun e w'=>e= .returned (.bool true)∧En N w0 w' cf a X s (L++[(ep,it)]):=by
 have h':=h;obtain ⟨Φ,F,g1,g2⟩:=h;refine (ft a.u (cf 12).toNat (Φ 3) L ep it w (F.part 3 (show 3 < N by omega)) h0 h1 hL).mono ?_;rintro e w' ⟨rfl,S',h3,h4,h5⟩;refine ⟨rfl,Dc Φ 3 S',F.turn (fun j _=>Xo hX j) (show 3 < N by omega) (fun j _ hj=>?_) (Xo hX 3) h3 h4 h5,Fx g1 g2 (show 3 < N by omega) h4,Km g2 h5 (g1 3 Ze)⟩;exact TL
theorem En.due (h:En N w0 w cf a X s L)(hX: ∀k,8≤k→Xa (X k))(hN:8≤N){ep:Int}(h0:0≤ep)(h1:ep≤1099511627776)(hL:L.length≤100000) :
  Zj Zb 256 #[.pointer (some ⟨a.u,0,none⟩),.int .i64 ep] w fun e w'=> ∃v,e= .returned v∧En (N+1) w0 w' cf a (ZD X N (YK 3 1 v (Vq ep L).length ((Vq ep L).map (ZR .i64)))) s (Gf ep L)∧w.heap.size≤w'.heap.size:=by
 obtain ⟨Φ,F,g1,g2⟩:=h;refine (uG a.u (cf 12).toNat (Φ 3) L ep w (F.part 3 (show 3 < N by omega)) h0 h1 hL).mono ?_;rintro e w' ⟨v,S',rfl,ho,h3,h4,h5⟩;have h4': ∀i,S' i→Φ 3 i∨w.heap.size≤i:=fun i hi=> .inl (h4 i hi)
 have F2:=F.turn (P':=Pt cf a X s (Gf ep L)) (fun j _=>Xo hX j) (show 3 < N by omega) (fun j _ hj=>by rcases j with _ | _ | _ | _ | _ | _ | _ | _ | j <;> first | rfl | exact absurd rfl hj) (Xo hX 3) h3 h4' h5;have hq:Pt cf a (ZD X N (YK 3 1 v (Vq ep L).length ((Vq ep L).map (ZR .i64)))) s (Gf ep L) N w' (fun i=>v.ownBlock=some i):=by rw [pt_high hN,xput_same]; exact row_zero ho
 have F3:=F2.put (Eb hN) hq (fun i hi=>(owns_lt ho i hi).2) (ij F.lt ho fun i hi=> .inl (F.lt 3 Ze i (h4 i hi)));refine ⟨v,rfl,⟨_,F3,fun j hj i hi=>?_,Km g2 h5 (g1 3 Ze)⟩,h5.size⟩
 by_cases Mi:j=N
 ·subst Mi; rw [Xf] at hi; exact .inr (Z9 g2.size (owns_lt ho i hi).1)
 ·rw [fput_other Mi] at hi;exact Fx g1 g2 (show 3 < N by omega) h4' j Ze i hi
theorem En.ulen (h:En N w0 w cf a X s L)(hX: ∀k,8≤k→Xa (X k))(hN:8≤N)(hL:L.length≤100000) :
  Zj Zb 63 #[.pointer (some ⟨a.u,0,none⟩)] w fun e w'=>e= .returned (.int .i64 L.length)∧En N w0 w' cf a X s L∧Zs w.heap.size w w':=by
 obtain ⟨S,hp,_⟩:=h.part (show 3 < N by omega);refine (eJ a.u (cf 12).toNat S L w hp hL).mono ?_;rintro e w' ⟨rfl,h2⟩;exact ⟨rfl,h.below hX h2,h2⟩
theorem jW {S:Nat→Prop}{base n:Nat}{v:Zl}{R:List Bool}(h:w.ownsRow base 4 1 v n (R.map Value.bool))(hS: ∀i,v.ownBlock=some i→ ¬S i) : ∃b cp,v= .slice b n cp∧R.length=n∧n≤cp∧Mc w S b R:=by
 have hl:=h.1;rw [List.length_map,Nat.mul_one] at hl
 rcases h.2 with ⟨rfl,h2⟩ | ⟨g,cp,cur,rfl,h1,h3,h4,h5,h6,h7⟩
 ·subst h2;obtain rfl:=ZU hl;exact ⟨none,0,rfl,rfl,by omega,fun h0=>by simp at h0⟩
 ·refine ⟨_,cp,rfl,hl,h4,fun h0=>⟨g,0,rfl,hS g rfl,(Yu.1 h3).1,fun j hj=>?_⟩⟩;have:=h.cells (g:=g) rfl j (.bool (R.getD j false)) gm;rwa [add_plain] at this
theorem En.lpush (h:En N w0 w cf a X s L)(hX: ∀k,8≤k→Xa (X k))(hN:8≤N)(cl x:Int) :
  Zj Zb 128 #[.pointer (some ⟨a.n,0,none⟩),.int .i64 cl,.int .i64 x] w fun e w'=>e= .returned (.int .i64 (errP (cf 1).toNat s.F s.W cl))∧En N w0 w' cf a X { s with F:=pushF (cf 1).toNat s.F cl x,W:=pushV (cf 1).toNat s.W cl x} L:=by
 obtain ⟨Φ,F,g1,g2⟩:=h;refine (qL cl x (F.part 6 (show 6 < N by omega))).mono ?_;rintro e w' ⟨rfl,S',h3,h5,h4⟩;refine ⟨rfl,Dc Φ 6 S',F.turn (fun j _=>Xo hX j) (show 6 < N by omega) (fun j _ hj=>?_) (Xo hX 6) h3 h4 h5,Fx g1 g2 (show 6 < N by omega) h4,Km g2 h5 (g1 6 Ze)⟩;exact TL
theorem En.lall (h:En N w0 w cf a X s L)(hX: ∀k,8≤k→Xa (X k))(hN:8≤N)(cl:Int) :
  Zj Zb 58 #[.pointer (some ⟨a.n,0,none⟩),.int .i64 cl] w fun e w'=> ∃v,e= .returned v∧En (N+1) w0 w' cf a (ZD X N (YK 3 1 v (U4 s.F s.W cl).length ((U4 s.F s.W cl).map (ZR .i64)))) s L∧Zs w.heap.size w w':=by
 obtain ⟨S,hp,_⟩:=h.part (show 6 < N by omega);refine (dq cl hp).mono ?_;exact ZcD
theorem En.assign (h:En N w0 w cf a X s L)(hX: ∀k,8≤k→Xa (X k))(hN:8≤N){r:Nat}(h8:8≤r)(hr:r < N){wv:Zl}{U:List Int}{nu:Nat}{x ep:Int}(tc:X r=YK 22 1 wv nu (U.map (ZR .u64)))(hl:U.length≤9223372036854775807)(hA:LZ U)(hx:0≤x)(aG:0≤ep)(vf:ep≤1099511627776) :
  Zj Zb 257 #[.int .i64 ep,.pointer (some ⟨a.n,0,none⟩),.pointer (some ⟨a.m,0,none⟩),.int .u64 x,wv] w fun e w'=> ∃v,e= .returned v∧
   En (N+1) w0 w' cf a (ZD X N (YK 71 3 v (Fc (KM U) s.F s.W s.cy x).1.length (PO (ep+1) (Fc (KM U) s.F s.W s.cy x).1))) { s with F:=(Fc (KM U) s.F s.W s.cy x).2.1,W:=(Fc (KM U) s.F s.W s.cy x).2.2.1,cy:=EK (Fc (KM U) s.F s.W s.cy x)} L∧w.heap.size≤w'.heap.size:=by
 obtain ⟨Φ,F,g1,g2⟩:=h;obtain ⟨⟨Sp,T,D,hm,hf⟩,hS5⟩:=F.part 5 (show 5 < N by omega);have hap:=F.ap 6 5 Ze Ze Ze;have hn6: ¬Φ 6 a.m:=fun hi=>hap a.m hi ((hS5 a.m).2 rfl)
 have Gd:=F.part r hr;rw [pt_high h8,tc] at Gd;obtain ⟨wa,cap,rfl,hlen,Gl,hu⟩:=Fq (S:=fun i=>i=a.m∨Φ 6 i) Gd.1 (fun i hi h=>by
  have h1:=(Gd.2 i).2 hi
  rcases h with rfl | h
  ·exact F.ap r 5 hr Ze Ze _ h1 ((hS5 _).2 rfl)
  ·exact F.ap r 6 hr Ze Ze i h1 h)
 subst hlen;refine (rf (F.part 6 (show 6 < N by omega)) hm hf hn6 hu hl hA hx aG vf).mono ?_;rintro e w' ⟨v,cp,rfl,hh⟩;obtain ⟨S1,T1,D1,k1,k2,k3,k4,k5,k6,k7,k8,k9⟩:=hh.out;have hT: ∀i,(i=a.m∨Φ 6 i)→Φ 6 i∨Φ 5 i:=fun i hi=>hi.elim (fun e=> .inr ((hS5 i).2 e)) .inl
 generalize Um:Fc (KM U) s.F s.W s.cy x=R at*;have F2:=F.turn2 (P':=Pt cf a X { s with F:=R.2.1,W:=R.2.2.1,cy:=EK R} L) (fun j _=>Xo hX j) (show 6 < N by omega) (show 5 < N by omega) Ze (fun j _ h6 h5=>by rcases j with _ | _ | _ | _ | _ | _ | _ | _ | j <;> first | rfl | exact absurd rfl h6 | exact absurd rfl h5) (Xo hX 6) (Xo hX 5) k1 (R':=Φ 5) ⟨⟨_,_,_,k4,k5⟩,hS5⟩ k2 (fun i hi=>hi) (fun i hi h5=>k3 (by rw [(hS5 i).1 h5] at hi; exact hi)) k8 hT;have hq:Pt cf a (ZD X N (YK 71 3 (.slice v R.1.length cp) R.1.length (PO (ep+1) R.1))) { s with F:=R.2.1,W:=R.2.2.1,cy:=EK R} L N w' (fun i=>(Yj v R.1.length cp).ownBlock=some i):=by rw [pt_high hN,xput_same]; exact row_zero k6
 have hold: ∀j,j < N→ ∀i,Dc (Dc Φ 6 S1) 5 (Φ 5) j i→ ¬(Yj v R.1.length cp).ownBlock=some i:=fun j hj i hi hv=>by
  by_cases h5:j=5
  ·subst h5; rw [Xf] at hi;have:=(owns_lt k6 i hv).1;have:=F.lt 5 hj i hi;omega
  ·rw [fput_other h5] at hi
   by_cases h6:j=6
   ·subst h6; rw [Xf] at hi; exact k7 i hv hi
   ·rw [fput_other h6] at hi;have:=(owns_lt k6 i hv).1;have:=F.lt j hj i hi;omega
 have F3:=F2.put (Eb hN) hq (fun i hi=>(owns_lt k6 i hi).2) hold;refine ⟨_,rfl,⟨_,F3,fun j hj i hi=>?_,Km g2 k8 (fun i hi=>(hT i hi).elim (g1 6 Ze i) (g1 5 Ze i))⟩,k8.size⟩
 by_cases Mi:j=N
 ·subst Mi; rw [Xf] at hi; exact .inr (Z9 g2.size (owns_lt k6 i hi).1)
 ·rw [fput_other Mi] at hi
  by_cases h5:j=5
  ·subst h5; rw [Xf] at hi; exact g1 5 Ze i hi
  ·rw [fput_other h5] at hi;exact Fx g1 g2 (show 6 < N by omega) k2 j Ze i hi
theorem En.pall (h:En N w0 w cf a X s L)(hX: ∀k,8≤k→Xa (X k))(hN:8≤N) :
  Zj Zb 57 #[.pointer (some ⟨a.p,0,none⟩)] w fun e w'=>e= .returned (.slice (some ⟨w.heap.size,0,none⟩) s.pd.length s.pd.length)∧En (N+1) w0 w' cf a (ZD X N (YW w.heap.size 3 (s.pd.map (ZR .i64)).toArray)) s L∧Zs w.heap.size w w':=by
 obtain ⟨S,⟨go,hp,_⟩,_⟩:=h.part (show 7 < N by omega);refine (SZ a.p _ _ go _ w hp).mono ?_;rintro e w' ⟨rfl,h1,h2⟩;exact ⟨rfl,h.more hX hN stays_block (S':=fun i=>i=w.heap.size) ⟨h1,fun i=>Vv⟩ (fun i hi=>Nat.le_of_eq hi.symm) h2,h2⟩
theorem En.rcall {X':Nat→Zc→(Nat→Prop)→Prop}{w1:Zc}(h:En N w0 w cf a X s L)(hX: ∀k,8≤k→Xa (X k))(hb:Zs w.heap.size w w1){k:Nat}(hk:k < N){R E kk b size c c':Nat}{F F':List Zl}
  (hP:Pt cf a X s L k=BV R E kk b size c F) (u4:Pt cf a X' s' L k=BV R E kk b size c' F') (GU: ∀j,j≠k→Pt cf a X' s' L j=Pt cf a X s L j) {f:FuncId} {args:Array Zl} {v:Zl}
  (hK: ∀go,(∀i,Foot b go i→i < w.heap.size)→RingAt R E kk w1 b go size c F→Zj Zb f args w1 fun e w'=>e= .returned v∧ ∃go',RingAt R E kk w' b go' size c' F'∧Moved w1 go go'∧Kept (Foot b go) w1 w') :
  Zj Zb f args w1 fun e w'=>e= .returned v∧En N w0 w' cf a X' s' L∧w1.heap.size≤w'.heap.size:=by
 obtain ⟨Φ,F0,g1,g2⟩:=h;have hp:=F0.part k hk;rw [hP] at hp;obtain ⟨go,hr,hS⟩:=hp;have F1:=F0.below (fun j _=>Xo hX j) hb;have g3:Kept w0.T w0.w w1:=g2.trans (YP (S:=fun _=>False) hb) (fun _ _ h=>h.elim);have pG:RingAt R E kk w1 b go size c F:=hr.kept (YP (S:=fun _=>False) hb) (fun _ _ h=>h);refine (hK go hr.lt pG).mono ?_;rintro e w' ⟨rfl,go',h1,h2,h3⟩;have P7:Kept (Φ k) w1 w':=h3.more fun i _ hi=>(hS i).2 hi
 have hS': ∀i,Foot b go' i→Φ k i∨w1.heap.size≤i:=fun i hi=>by
  rcases hi with rfl | hi
  ·exact .inl ((hS _).2 (.inl rfl))
  ·rcases h2 i hi.symm with h4 | h4
   ·exact .inl ((hS i).2 (.inr h4.symm))
   ·exact .inr h4
 refine ⟨rfl,⟨Dc Φ k (Foot b go'),F1.turn (fun j _=>Xo hX j) hk (fun j _ hj=>GU j hj) (by rw [u4]; exact GL) (by rw [u4]; exact ⟨go',h1,fun i=>Vv⟩) hS' P7,Fx g1 g3 hk hS',Km g3 P7 (g1 k hk)⟩,h3.size⟩
theorem NK (w:Zc)(xs:Array Zl)(t:ZN)(len k:Nat)(hl:xs.size=len*k)(h1: ∀v ∈ xs.toList,v.oneCell'=true)(T:Nat→Prop)(hT: ∀i,T i→i < w.heap.size) :Iv (w.alloc (.cells xs t)) T (some ⟨w.heap.size,0,none⟩) len k xs.toList:=
 ⟨by simpa using hl,h1,fun _=>⟨_,rfl,fun hf=>Nat.lt_irrefl _ (hT _ hf),fun j v hv=>by
  rw [add_plain,ZX,(Zv w t xs).cell];simpa using hv⟩⟩
theorem En.ppush (h:En N w0 w cf a X s L)(hX: ∀k,8≤k→Xa (X k))(hN:8≤N){x:Int}(hl:(s.pd.length:Int)< cf 1) :
  Zj Zb 122 #[.pointer (some ⟨a.p,0,none⟩),.slice (some ⟨w.heap.size,0,none⟩) 1 1] (w.alloc (.cells #[.int .i64 x] 3)) fun e w'=>e= .returned (.int .i64 1)∧En N w0 w' cf a X { s with pd:=s.pd++[x]} L∧(w.alloc (.cells #[.int .i64 x] 3)).heap.size≤w'.heap.size:=by
 have Sj:min 1 ((cf 1).toNat - s.pd.length)=1:=by omega
 refine h.rcall (X':=X) hX ((Zp _ _).alloc (Zg _) _) (show 7 < N by omega) (c':=(s.pd++[x]).length) rfl rfl (fun j hj=>?_) fun go XP hr=>?_
 ·exact TL
 ·have hK:=Lg a.p (cf 1).toNat s.pd.length 1 1 go _ (s.pd.map (ZR .i64)) [.int .i64 x] _ hr (NK w #[.int .i64 x] _ 1 1 rfl (fun v hv=>by simp at hv; subst hv; rfl) _ XP) Ze Ze;rw [Sj] at hK;refine hK.mono ?_;rintro e w' ⟨rfl,go',h1,h2,h3⟩;refine ⟨rfl,go',?_,h2,h3⟩;rw [ZE,XS];exact h1
theorem En.activate (h:En N w0 w cf a X s L)(hX: ∀k,8≤k→Xa (X k))(hN:8≤N){r:Nat}(h8:8≤r)(hr:r < N){wv:Zl}{U:List Int}{nu:Nat}{lim:Int}(tc:X r=YK 22 1 wv nu (U.map (ZR .u64)))(hl:U.length≤9223372036854775807)(hA:LZ U)(ZaX:BU lim) :
  Zj Zb 215 #[.pointer (some ⟨a.p,0,none⟩),.int .u64 lim,wv] w fun e w'=> ∃v,e= .returned v∧
   En (N+1) w0 w' cf a (ZD X N (YK 3 1 v (FW lim (s.pd.map (KM U))) ((s.pd.take (FW lim (s.pd.map (KM U)))).map (ZR .i64)))) { s with pd:=s.pd.drop (FW lim (s.pd.map (KM U)))} L∧w.heap.size≤w'.heap.size:=by
 have h':=h;obtain ⟨Φ,F,g1,g2⟩:=h;obtain ⟨go,hr7,hS7⟩:=F.part 7 (show 7 < N by omega);have Gd:=F.part r hr;rw [pt_high h8,tc] at Gd;obtain ⟨wa,cap,rfl,hlen,Gl,hu⟩:=Fq (S:=Foot a.p go) Gd.1 (fun i hi h=>F.ap r 7 hr Ze Ze i ((Gd.2 i).2 hi) ((hS7 i).2 h));subst hlen;have P9:=F.part 7 (show 7 < N by omega);refine (cB hr7 hu hl hA ZaX).mono ?_;rintro e w' ⟨v,rfl,h1,h2,h3⟩;have hk:Kept (Φ 7) w w':=h3.more fun i _ hi=>(hS7 i).2 hi
 generalize hbt:FW lim (s.pd.map (KM U))=B at*;have hnew:Pt cf a X { s with pd:=s.pd.drop B} L 7 w' (Φ 7):=⟨go,(by
  show RingAt _ _ 1 w' a.p go (cf 1).toNat (s.pd.drop _).length _;rw [List.length_drop];exact h2),hS7⟩
 have F2:=F.turn (P':=Pt cf a X { s with pd:=s.pd.drop B} L) (fun j _=>Xo hX j) (show 7 < N by omega) (fun j _ hj=>by rcases j with _ | _ | _ | _ | _ | _ | _ | _ | j <;> first | rfl | exact absurd rfl hj) (Xo hX 7) hnew (fun i hi=> .inl hi) hk;have hq:Pt cf a (ZD X N (YK 3 1 v B ((s.pd.take B).map (ZR .i64)))) { s with pd:=s.pd.drop B} L N w' (fun i=>v.ownBlock=some i):=by rw [pt_high hN,xput_same]; exact row_zero h1
 have F3:=F2.put (Eb hN) hq (fun i hi=>(owns_lt h1 i hi).2) (ij F.lt h1 fun i hi=> .inl (F.lt 7 Ze i hi));refine ⟨v,rfl,⟨_,F3,fun j hj i hi=>?_,Km g2 hk (g1 7 Ze)⟩,h3.size⟩
 by_cases Mi:j=N
 ·subst Mi; rw [Xf] at hi; exact .inr (Z9 g2.size (owns_lt h1 i hi).1)
 ·rw [fput_other Mi] at hi;exact Fx g1 g2 (show 7 < N by omega) (fun i hi=> .inl hi) j Ze i hi
end
end
section
open Go Go.RowKit
section
variable {N:Nat} {w0:DR} {w w' w1:Zc} {cf:Nat→Int} {a:Pl} {X X':Nat→Zc→(Nat→Prop)→Prop} {s s':Sg} {L L':List QT}
theorem En.turnX (h:En N w0 w cf a X s L)(hX: ∀k,8≤k→Xa (X k)){k:Nat}(hk:k < N)(Um:Xa (Pt cf a X' s' L' k))(GU: ∀j,j < N→j≠k→Pt cf a X' s' L' j=Pt cf a X s L j)
  (hn: ∀S,Pt cf a X s L k w S→ ∃S',Pt cf a X' s' L' k w' S'∧(∀i,S' i→S i∨w.heap.size≤i)∧Kept S w w') :En N w0 w' cf a X' s' L':=by
 obtain ⟨Φ,F,h1,h2⟩:=h;obtain ⟨S',p1,p2,p3⟩:=hn _ (F.part k hk);exact ⟨_,F.turn (fun j _=>Xo hX j) hk GU Um p1 p2 p3,Fx h1 h2 hk p2,Km h2 p3 (h1 k hk)⟩
theorem Xk {Q Q':Zc→(Nat→Prop)→Prop}{r:Nat} :ZD (ZD X r Q) r Q'=ZD X r Q':=by
 funext k; unfold ZD; split <;> rfl
theorem xput_ne {Q:Zc→(Nat→Prop)→Prop}{k r:Nat}(h:k≠r) :ZD X r Q k=X k:=if_neg h
theorem fp {Q:Zc→(Nat→Prop)→Prop}{r j:Nat}(h8:8≤r)(h:j≠r) :Pt cf a (ZD X r Q) s L j=Pt cf a X s L j:=by
 rcases Ys j 8 with h1 | h1
 ·rcases j with _ | _ | _ | _ | _ | _ | _ | _ | j <;> first | rfl | omega
 ·rw [pt_high h1,pt_high h1];exact if_neg h
theorem SL {Q:Zc→(Nat→Prop)→Prop}{r:Nat}(h8:8≤r) :Pt cf a (ZD X r Q) s L r=Q:=by rw [pt_high h8]; exact if_pos rfl
theorem En.own (h:En N w0 w cf a X s L)(hX: ∀k,8≤k→Xa (X k)){r:Nat}(h8:8≤r)(hr:r < N){Q Q':Zc→(Nat→Prop)→Prop}(hx:X r=Q)(hQ:Xa Q')
  (hn: ∀S,Q w S→ ∃S',Q' w' S'∧(∀i,S' i→S i∨w.heap.size≤i)∧Kept S w w') :En N w0 w' cf a (ZD X r Q') s L:=by
 refine h.turnX hX hr (by rw [SL h8]; exact hQ) (fun j _ hj=>fp h8 hj) fun S hS=>?_
 rw [pt_high h8,hx] at hS;rw [SL h8];exact hn S hS
theorem En.as (h:En N w0 w cf a X s L)(hX: ∀k,8≤k→Xa (X k)){r:Nat}(h8:8≤r)(hr:r < N){Q Q':Zc→(Nat→Prop)→Prop}(hx:X r=Q)(hQ:Xa Q')(hn: ∀S,Q w S→Q' w S) :En N w0 w cf a (ZD X r Q') s L:=
 h.own hX h8 hr hx hQ fun S hS=>⟨S,hn S hS,fun i hi=> .inl hi,ZH _ _⟩
theorem En.drewN (h:En N w0 w cf a X s L)(hX: ∀k,8≤k→Xa (X k))(n:Nat) :En N w0 (w.drewN n) cf a X s L:=h.below hX (below_drewN (Zp _ _) n)
theorem En.drew (h:En N w0 w cf a X s L)(hX: ∀k,8≤k→Xa (X k)) :En N w0 w.drew cf a X s L:=h.below hX (Zp _ _).drew
theorem En.box (h:En N w0 w cf a X s L)(hX: ∀k,8≤k→Xa (X k))(hN:8≤N)(cs:Array Zl)(t:ZN) :En (N+1) w0 (w.alloc (.cells cs t)) cf a (ZD X N (YW w.heap.size t cs)) s L:=
 h.more hX hN stays_block (S':=fun i=>i=w.heap.size) ⟨Zv w t cs,fun i=>Vv⟩ (fun i hi=>Nat.le_of_eq hi.symm) ((Zp _ _).alloc (Zg _) _)
theorem En.blkAt (h:En N w0 w cf a X s L){r g t:Nat}{cs:Array Zl}(h8:8≤r)(hr:r < N)(hx:X r=YW g t cs) :Blk w g t cs:=by
 exact zT
theorem En.setc (h:En N w0 w cf a X s L)(hX: ∀k,8≤k→Xa (X k)){r g t:Nat}{cs:Array Zl}(h8:8≤r)(hr:r < N)(hx:X r=YW g t cs)(i:Nat)(u:Zl) :En N w0 (w.setCell ⟨g,i,none⟩ u) cf a (ZD X r (YW g t (cs.setIfInBounds i u))) s L:=
 h.own hX h8 hr hx stays_block fun S hS=>⟨S,⟨hS.1.set_ i u,hS.2⟩,fun i hi=> .inl hi,Qq (ZH _ _) (.inl ((hS.2 g).2 rfl)) _⟩
theorem En.setr (h:En N w0 w cf a X s L)(hX: ∀k,8≤k→Xa (X k)){r g t:Nat}{cs cs':Array Zl}(h8:8≤r)(hr:r < N)(hx:X r=YW g t cs)(hw:Blk w' g t cs')(hk:Kept (fun i=>i=g) w w') :En N w0 w' cf a (ZD X r (YW g t cs')) s L:=
 h.own hX h8 hr hx stays_block fun S hS=>⟨S,⟨hw,hS.2⟩,fun i hi=> .inl hi,hk.more fun i _ hi=>(hS.2 i).2 hi⟩
theorem En.grow {ops:Array Oper}{rest:List Oper}{o:Oper}{c:Act}{Q:Exit→Act→Zc→Prop}(h:En N w0 w cf a X s L)(hX: ∀k,8≤k→Xa (X k)){r:Nat}(h8:8≤r)(hr:r < N){e:ZN}{size n:Nat}{v:Zl}{xs:List Zl}(hx:X r=YK e size v n xs)
  (DV:o.guard=none) (sl x:Operand) (t:ZN) (ho:o.op= .call { callee:= .builtin .append,args:= #[sl,x],argTypes:= #[t,t]}) (i:TypeInfo) (z:Zl) (bytes:Nat) (ht:Tryz.prog.underlying t=some (.slice e)) (hi:Tryz.prog.info? e=some i) (hz:i.zero=some z)
  (Lb:i.size=size) (LJ:i.bytes=bytes) (pI:z.cells.size=size) (Er:0 < size) (hs:c.eval sl=v) (m:Nat) (news:Array Zl) (te:ZN) (g:Nat) (hg:w.heap.size=g) (hx':c.eval x= .slice (some ⟨g,0,none⟩) m m) (hl:news.toList.length=m*size) (h1: ∀u ∈ news.toList,u.oneCell'=true)
  (mN:n+m≤Jp) (BQ:(n+m)*bytes≤140737488355328)
  (K: ∀v' w',En N w0 w' cf a (ZD X r (YK e size v' (n+m) (xs++news.toList))) s L→w.heap.size≤w'.heap.size→wpList Zb ops Q rest (c.put o.dst v') w') :wpList Zb ops Q (o::rest) c (w.alloc (.cells news te)):=by
 subst hg;have hb:Zs w.heap.size w (w.alloc (.cells news te)):=(Zp _ _).alloc (Zg _) _;have h':=h.below hX hb;refine wpList_append_own_at _ DV sl x t ho 0 e i z size bytes ht hi hz Lb LJ pI Er v n xs hs (h'.row h8 hr hx) ⟨w.heap.size,0,none⟩ m m news.toList hx' hl (fun j u hu=>?_) h1 mN BQ (XL _) fun v' w' g1 g2 _ g4=>?_
 ·rw [add_plain,ZX,(Zv w te news).cell];simpa using hu
 ·refine K v' w' (h'.own hX h8 hr hx stays_row fun S hS=>⟨_,row_zero g1,fun j hj=>?_,Xu g2 fun j hj=>(hS.2 j).2 hj.symm⟩) (Z9 hb.size g2.size);exact Zgq
theorem En.nil (h:En N w0 w cf a X s L)(hX: ∀k,8≤k→Xa (X k))(hN:8≤N)(e:ZN)(k:Nat) :En (N+1) w0 w cf a (ZD X N (YK e k (.slice none 0 0) 0 [])) s L:=
 h.more hX hN stays_row (S':=fun _=>False) ⟨World.ownsRow_nil _ _ _ _,fun i=>by simp [Y4]⟩ (fun _ h=>h.elim) (Zp _ _)
theorem En.turn_join (h:En N w0 w cf a X s L)(hX: ∀k,8≤k→Xa (X k))(hN:8≤N){k:Nat}(hk:k < 8)(GU: ∀j,j≠k→Pt cf a X s' L' j=Pt cf a X s L j){Q:Zc→(Nat→Prop)→Prop}{S':Nat→Prop}(hQ:Xa Q)(hq:Q w' S')(hS: ∀i,S' i→w.heap.size≤i)
  (hn: ∀S,Pt cf a X s L k w S→(∀i,S i→i < w.heap.size)→Pt cf a X s' L' k w' S∧Kept S w w') :En (N+1) w0 w' cf a (ZD X N Q) s' L':=by
 obtain ⟨Φ,F,g1,g2⟩:=h;obtain ⟨p1,p2⟩:=hn _ (F.part k Ze) (F.lt k Ze);have F2:=F.turn (fun j _=>Xo hX j) (show k < N by omega) (fun j _ hj=>GU j hj) (Xo hX k) p1 (fun i hi=> .inl hi) p2;have kV:Pt cf a (ZD X N Q) s' L' N w' S':=by rw [pt_high hN,xput_same]; exact hq
 have F3:=F2.put (P':=Pt cf a (ZD X N Q) s' L') (Eb hN) kV (fun i hi=>hQ.1 w' S' hq i hi) (fun j hj i hi hv=>by
  have h1:=hS i hv
  by_cases EU:j=k
  ·subst EU;rw [Xf] at hi;have:=F.lt j hj i hi;omega
  ·rw [fput_other EU] at hi;have:=F.lt j hj i hi;omega)
 refine ⟨_,F3,fun j hj i hi=>?_,Km g2 p2 (g1 k Ze)⟩
 by_cases Mi:j=N
 ·exact zL
 ·rw [fput_other Mi] at hi;exact Fx g1 g2 (show k < N by omega) (fun i hi=> .inl hi) j Ze i hi
def L6 (i:Int) :List Zl:= [.int .i64 i]
theorem fA {b:Option Addr}{l:List Int}{S:Nat→Prop}(h:JU w S b l) : ∃S',Kt L6 1 b l w S'∧ ∀i,S' i→ ¬S i:=by
 rcases Nat.eq_zero_or_pos l.length with h0 | h0
 ·rw [ZU h0];exact ⟨_,Kt.nil w b,fun i hi=>hi.elim⟩
 ·obtain ⟨g,off,e,hS,hg,hc⟩:=h h0;refine ⟨fun i=>i=g,⟨fun _=>⟨g,off,e,fun hn=>hn rfl,hg,fun i v hi=>?_⟩,fun i hi=>hi▸hg⟩,fun i hi=>hi▸hS⟩;intro j u hj
  match j,hj with
  | 0,hj=>
   simp only [L6,List.getElem?_cons_zero,Option.some.injEq] at hj;subst hj;have UR:=(Zi.1 hi).1;have:=hc i UR;rw [Zq,hi] at this;simpa using this
theorem En.sweep2 (h:En N w0 w cf a X s L)(hX: ∀k,8≤k→Xa (X k))(hN:8≤N){r:Nat}(h8:8≤r)(hr:r < N){v:Zl}{n:Nat}{R:List Bool}(hx:X r=YK 4 1 v n (R.map Value.bool)){vs p:Int}(hs:s.cu≤100)(hR:R.length≤100) :
  Zj Zb 270 #[.pointer (some ⟨a.k,0,none⟩),v,.int .i64 vs,.int .i64 p] w fun e w'=> ∃b2 cp,e= .returned (.tuple #[.slice b2 (KS R s.cu (F8 R s.cu vs p)).length cp,.int .i64 (F8 R s.cu vs p)])∧
   En (N+1) w0 w' cf a (ZD X N (Kt L6 1 b2 (KS R s.cu (F8 R s.cu vs p)))) { s with cu:=DN R.length s.cu (F8 R s.cu vs p)} L∧w.heap.size≤w'.heap.size:=by
 have h':=h;obtain ⟨Φ,F,g1,g2⟩:=h;have hp:=F.part 4 (show 4 < N by omega);have Gd:=F.part r hr;rw [pt_high h8,hx] at Gd;obtain ⟨b,cap,rfl,hlen,Gl,hb⟩:=jW (S:=fun i=>i=a.k) Gd.1 (fun i hi e=>F.ap r 4 hr Ze Ze i ((Gd.2 i).2 hi) ((hp.2 i).2 e));subst hlen;refine (mq a.k s.cu b cap R vs p w hp.1 hs hR hb).mono ?_;rintro e w' ⟨m,b2,cp,rfl,hm,hi,hc,hk⟩;obtain rfl:=hm.unique (Re R s.cu vs p);obtain ⟨S',q1,q2⟩:=fA hi.out;refine ⟨b2,cp,rfl,h'.turn_join hX hN (show 4 < 8 by omega) (fun j hj=>?_) Lp q1 (fun i hi=>Nat.not_lt.1 (q2 i hi)) fun S hS _=>⟨⟨hc.out,hS.2⟩,hk.more fun i _ hi=>(hS.2 i).2 hi⟩,hk.size⟩;exact TL
theorem En.remap {M:Nat}(h:En M w0 w cf a X s L)(f:Nat→Nat)(hf0: ∀k,k < 8→f k=k)(hf1: ∀k,8≤k→8≤f k)(hf: ∀k,k < N→f k < M)(ec: ∀j k,j < N→k < N→f j=f k→j=k)(hZ: ∀k,8≤k→k < N→X' k=X (f k)) :En N w0 w cf a X' s L:=by
 obtain ⟨Φ,F,g1,g2⟩:=h;refine ⟨_,F.remap f hf ec fun k hk=>?_,fun k hk=>g1 _ (hf k hk),g2⟩
 rcases Ys k 8 with h1 | h1
 ·rw [hf0 k h1]
  rcases k with _ | _ | _ | _ | _ | _ | _ | _ | k <;> first | rfl | omega
 ·rw [pt_high h1,pt_high (hf1 k h1),hZ k h1 hk]
theorem En.get_in (h:En N w0 w cf a X s L)(hN:8≤N){n:Nat}{v:Yd}(hv:s.V[n]?=some v) :
  Zj Zb 70 #[.pointer (some ⟨a.r,0,none⟩),.int .i64 (n:Int)] w fun e w'=>e= .returned (.tuple #[.agg (Zd v),.bool true])∧Zs w.heap.size w w':=by
 obtain ⟨S,hp,_⟩:=h.part (show 2 < N by omega);refine (im a.r (cf 0).toNat S n s.V w hp).mono ?_;rintro e w' ⟨hb,⟨ho,_⟩ | ⟨k,u,hk,hu,rfl⟩⟩
 ·have:=(Zi.1 hv).1; omega
 ·obtain rfl:n=k:=by omega
  rw [hv] at hu;obtain rfl:=ZS hu;exact ⟨rfl,hb⟩
theorem En.get_out (h:En N w0 w cf a X s L)(hN:8≤N){i:Int}(hi:i < 0∨(s.V.length:Int)≤i) :
  Zj Zb 70 #[.pointer (some ⟨a.r,0,none⟩),.int .i64 i] w fun e w'=>e= .returned (.tuple #[.agg (Zd ZZ),.bool false])∧Zs w.heap.size w w':=by
 obtain ⟨S,hp,_⟩:=h.part (show 2 < N by omega);refine (im a.r (cf 0).toNat S i s.V w hp).mono ?_;rintro e w' ⟨hb,⟨_,rfl⟩ | ⟨k,u,rfl,hu,_⟩⟩
 ·exact ⟨rfl,hb⟩
 ·have:=(Zi.1 hu).1; omega
theorem En.count (h:En N w0 w cf a X s L)(hN:8≤N){st:Int}(hs:(Xg .i64 st).wf=true) :
  Zj Zb 287 #[.pointer (some ⟨a.r,0,none⟩),.int .i64 st] w fun e w'=>e= .returned (.int .i64 (Xj s.V st))∧w=w':=by
 obtain ⟨S,hp,_⟩:=h.part (show 2 < N by omega);obtain ⟨m,b,cp,_,_,x2,_,_,_,_,hC,_⟩:=Fh.cells hp;exact j7 a.r m _ st w x2 hC hs
theorem En.len (h:En N w0 w cf a X s L)(hN:8≤N) :
  Zj Zb 119 #[.pointer (some ⟨a.r,0,none⟩)] w fun e w'=>e= .returned (.int .i64 s.V.length)∧w=w':=by
 obtain ⟨S,hp,_⟩:=h.part (show 2 < N by omega);obtain ⟨m,b,cp,_,x1,_⟩:=Fh.cells hp;exact Cy a.r _ cp b w x1
theorem En.active (h:En N w0 w cf a X s L)(hN:8≤N) :
  Zj Zb 56 #[.pointer (some ⟨a.r,0,none⟩)] w fun e w'=>e= .returned (.int .u64 (Yy s.V))∧w=w':=by
 obtain ⟨S,hp,_⟩:=h.part (show 2 < N by omega);obtain ⟨m,b,cp,_,_,_,x3,_⟩:=Fh.cells hp;exact dm a.r _ w x3
theorem En.at_ (h:En N w0 w cf a X s L)(hN:8≤N) :
  Zj Zb 61 #[.pointer (some ⟨a.k,0,none⟩)] w fun e w'=>e= .returned (.int .i64 s.cu)∧w=w':=by
 obtain ⟨S,hp,_⟩:=h.part (show 4 < N by omega);exact Zam a.k s.cu w hp.1
theorem En.carry (h:En N w0 w cf a X s L)(hN:8≤N) :
  Zj Zb 62 #[.pointer (some ⟨a.m,0,none⟩)] w fun e w'=>e= .returned (.int .u64 s.cy)∧ ∃m,w'=w.drewN m:=by
 obtain ⟨S,⟨⟨Sp,T,D,hm,hf⟩,_⟩,_⟩:=h.part (show 5 < N by omega);exact RI a.m _ Sp T D w hm hf
theorem En.totals (h:En N w0 w cf a X s L)(hN:8≤N) :
  Zj Zb 52 #[.pointer (some ⟨a.l,0,none⟩)] w fun e w'=>e= .returned (.agg #[.int .u64 s.D,.int .u64 s.P,.int .u64 s.B])∧Zs w.heap.size w w':=by
 obtain ⟨S,hp,_⟩:=h.part (show 1 < N by omega);exact fY a.l _ _ _ _ w hp.1
theorem En.lfree (h:En N w0 w cf a X s L)(hN:8≤N)(cl:Int) :
  Zj Zb 188 #[.pointer (some ⟨a.n,0,none⟩),.int .i64 cl] w fun e w'=>e= .returned (.int .i64 (Hw (cf 1).toNat s.F s.W cl:Nat))∧ ∃m,w'=w.drewN m:=by
 obtain ⟨S,hp,_⟩:=h.part (show 6 < N by omega);exact oR cl hp
theorem En.ahead (h:En N w0 w cf a X s L)(hX: ∀k,8≤k→Xa (X k))(hN:8≤N)(cl:Int) :
  Zj Zb 238 #[.pointer (some ⟨a.n,0,none⟩),.int .i64 cl] w fun e w'=> ∃v,e= .returned v∧En (N+1) w0 w' cf a (ZD X N (YK 3 1 v (KK s.F s.W cl).length ((KK s.F s.W cl).map (ZR .i64)))) s L∧Zs w.heap.size w w':=by
 obtain ⟨S,hp,_⟩:=h.part (show 6 < N by omega);refine (jM cl hp).mono ?_;exact ZcD
theorem En.pfree (h:En N w0 w cf a X s L)(hN:8≤N) :
  Zj Zb 120 #[.pointer (some ⟨a.p,0,none⟩)] w fun e w'=>e= .returned (.int .i64 (((cf 1).toNat - s.pd.length:Nat) :Int))∧ ∃m,w'=w.drewN m:=by
 obtain ⟨S,⟨go,hp,_⟩,_⟩:=h.part (show 7 < N by omega);obtain ⟨h1,_,h3⟩:=hp.size_le;exact Ec a.p _ _ w hp.cells.1 hp.cells.2 h3 h1
end
end
section
open Go Go.RowKit
structure Ql where
 d:Nat
 q:Nat
 e:Nat
def JA (l:List (Int × Int)) :List Zl:=Yl JE l
def Jo (l:List Rq) :List Zl:=Yl Us l
def Uw (c:Nat→Int)(a:Pl)(q:Ql) :Array Zl:= #[.int .i64 (c 0),.int .i64 (c 1),.int .u64 (c 2),.int .u64 (c 3),.int .u64 (c 4),.int .u64 (c 5),.int .u64 (c 6),.int .u64 (c 7),.int .u64 (c 8),.int .u64 (c 9),.int .i64 (c 10),.int .i64 (c 11),.int .i64 (c 12),.int .i64 (c 13),.int .i64 (c 14),.int .i64 (c 15),.int .i64 (c 16),.int .i64 (c 17),.int .u64 (c 18),.int .u64 (c 19),
 .pointer (some ⟨a.c,0,none⟩),.pointer (some ⟨a.r,0,none⟩),.pointer (some ⟨a.l,0,none⟩),.pointer (some ⟨a.k,0,none⟩),.pointer (some ⟨a.n,0,none⟩),.pointer (some ⟨a.m,0,none⟩),.pointer (some ⟨a.u,0,none⟩),.pointer (some ⟨a.p,0,none⟩),.pointer (some ⟨q.d,0,none⟩),.pointer (some ⟨q.q,0,none⟩)]
def XE (c:Nat→Int)(a:Pl)(q:Ql)(mg:List (Int × Int))(pt:List Rq)(X:Nat→Zc→(Nat→Prop)→Prop) :Nat→Zc→(Nat→Prop)→Prop
 | 8=>BV 192 73 2 q.d (c 1).toNat mg.length (JA mg)
 | 9=>BV 195 75 2 q.q (c 1).toNat pt.length (Jo pt)
 | 10=>YW q.e 107 (Uw c a q)
 | k=>X k
def Eg (N:Nat)(w0:DR)(w:Zc)(c:Nat→Int)(a:Pl)(q:Ql)(Z:Nat→Zc→(Nat→Prop)→Prop)(s:Sg)(L:List QT) :Prop:=
 ∃X,(∀k,11≤k→Xa (X k))∧(∀k,11≤k→k < N→X k=Z k)∧11≤N∧En N w0 w c a (XE c a q s.mg s.pt X) s L
section
variable {N:Nat} {w0:DR} {w w' w1:Zc} {c:Nat→Int} {a:Pl} {q:Ql} {X Z Z':Nat→Zc→(Nat→Prop)→Prop} {s s':Sg} {L L':List QT}
theorem BK (hX: ∀k,11≤k→Xa (X k)){mg:List (Int × Int)}{pt:List Rq} : ∀k,8≤k→Xa (XE c a q mg pt X k):=fun k hk=>by
 rcases Ys k 11 with h | h
 ·obtain rfl | rfl | rfl:k=8∨k=9∨k=10:=by omega
  ·exact GL
  ·exact GL
  ·exact stays_block
 ·obtain ⟨j,rfl⟩ : ∃j,k=j+11:=⟨k - 11,by omega⟩;exact hX _ Ze
theorem Bi {mg:List (Int × Int)}{pt:List Rq}{k:Nat}(hk:11≤k) :XE c a q mg pt X k=X k:=by
 obtain ⟨j,rfl⟩ : ∃j,k=j+11:=⟨k - 11,by omega⟩;rfl
theorem OJ {mg:List (Int × Int)}{pt:List Rq}{Q:Zc→(Nat→Prop)→Prop}(hN:11≤N) :ZD (XE c a q mg pt X) N Q=XE c a q mg pt (ZD X N Q):=by
 funext k
 rcases Ys k 11 with h | h
 ·have:ZD (XE c a q mg pt X) N Q k=XE c a q mg pt X k:=if_neg Ze;rw [this]
  rcases k with _ | _ | _ | _ | _ | _ | _ | _ | _ | _ | _ | k
  all_goals first | omega | rfl | skip
  all_goals exact (if_neg Ze).symm
 ·unfold ZD;rw [Bi h,Bi h]
theorem Eg.open (h:Eg N w0 w c a q Z s L) : ∃X,(∀k,8≤k→Xa (X k))∧8≤N∧En N w0 w c a X s L∧
  (∀w' s' L',En N w0 w' c a X s' L'→s'.mg=s.mg→s'.pt=s.pt→Eg N w0 w' c a q Z s' L')∧
  (∀w' s' L' Q,En (N+1) w0 w' c a (ZD X N Q) s' L'→Xa Q→s'.mg=s.mg→s'.pt=s.pt→Eg (N+1) w0 w' c a q (ZD Z N Q) s' L')∧(∀k,11≤k→k < N→X k=Z k)∧X 10=YW q.e 107 (Uw c a q):=by
 obtain ⟨X,hX,hZ,hN,h⟩:=h;refine ⟨_,BK hX,by omega,h,fun w' s' L' h' e1 e2=>⟨X,hX,hZ,hN,by rw [e1,e2]; exact h'⟩,fun w' s' L' Q h' hQ e1 e2=>⟨ZD X N Q,fun k hk=>?_,fun k h1 h2=>?_,by omega,?_⟩,fun k hk kQ=>by rw [Bi hk,hZ k hk kQ],rfl⟩
 ·unfold ZD; split
  ·exact hQ
  ·exact hX k hk
 ·unfold ZD; split
  ·rfl
  ·exact hZ k h1 Ze
 ·rw [e1,e2,←OJ hN]; exact h'
theorem Eg.low (h:Eg N w0 w c a q Z s L) :11≤N:=by obtain ⟨X,_,_,hN,_⟩:=h; exact hN
theorem Eg.blk (h:Eg N w0 w c a q Z s L) :Blk w q.e 107 (Uw c a q):=by
 have hN:=h.low;obtain ⟨X,hX,_,h,_,_,_,TQ⟩:=h.open;exact h.blkAt (r:=10) Ze Ze TQ
theorem Eg.below (h:Eg N w0 w c a q Z s L)(hb:Zs w.heap.size w w') :Eg N w0 w' c a q Z s L:=by
 obtain ⟨X,hX,_,h,k,_⟩:=h.open;exact k _ _ _ (h.below hX hb) rfl rfl
theorem Eg.drewN (h:Eg N w0 w c a q Z s L)(n:Nat) :Eg N w0 (w.drewN n) c a q Z s L:=h.below (below_drewN (Zp _ _) n)
theorem Eg.drew (h:Eg N w0 w c a q Z s L) :Eg N w0 w.drew c a q Z s L:=h.below (Zp _ _).drew
theorem Eg.ext (h:Eg N w0 w c a q Z s L)(hz: ∀k,11≤k→k < N→Z k=Z' k) :Eg N w0 w c a q Z' s L:=by
 obtain ⟨X,hX,hZ,hN,h⟩:=h;exact ⟨X,hX,fun k h1 h2=>(hZ k h1 h2).trans (hz k h1 h2),hN,h⟩
theorem Eg.less (h:Eg (N+1) w0 w c a q Z s L)(hN:11≤N) :Eg N w0 w c a q Z s L:=by
 obtain ⟨X,hX,hZ,_,h⟩:=h;exact ⟨X,hX,fun k h1 h2=>hZ k h1 Ze,hN,h.less⟩
theorem Eg.drop {Q:Zc→(Nat→Prop)→Prop}(h:Eg (N+1) w0 w c a q (ZD Z N Q) s L)(hN:11≤N) :Eg N w0 w c a q Z s L:=(h.less hN).ext fun k _ h2=>if_neg Ze
theorem Eg.box (h:Eg N w0 w c a q Z s L)(cs:Array Zl)(t:ZN) :Eg (N+1) w0 (w.alloc (.cells cs t)) c a q (ZD Z N (YW w.heap.size t cs)) s L:=by
 obtain ⟨X,hX,hN,h,_,k,_⟩:=h.open;exact k _ _ _ _ (h.box hX hN cs t) stays_block rfl rfl
theorem Eg.nil (h:Eg N w0 w c a q Z s L)(e:ZN)(k:Nat) :Eg (N+1) w0 w c a q (ZD Z N (YK e k (.slice none 0 0) 0 [])) s L:=by
 obtain ⟨X,hX,hN,h,_,kk,_⟩:=h.open;exact kk _ _ _ _ (h.nil hX hN e k) stays_row rfl rfl
theorem Eg.blkAt (h:Eg N w0 w c a q Z s L){r g t:Nat}{cs:Array Zl}(UP:11≤r)(hr:r < N)(hx:Z r=YW g t cs) :Blk w g t cs:=by
 obtain ⟨X,hX,_,h,_,_,hz,_⟩:=h.open;exact h.blkAt (r:=r) Ze hr ((hz r UP hr).trans hx)
theorem Eg.row (h:Eg N w0 w c a q Z s L){r:Nat}(UP:11≤r)(hr:r < N){e:ZN}{kk n:Nat}{v:Zl}{xs:List Zl}(hx:Z r=YK e kk v n xs) :w.ownsRow 0 e kk v n xs:=by
 obtain ⟨X,hX,_,h,_,_,hz,_⟩:=h.open;exact h.row (r:=r) Ze hr ((hz r UP hr).trans hx)
theorem Eg.own (h:Eg N w0 w c a q Z s L){r:Nat}(UP:11≤r)(hr:r < N){Q Q':Zc→(Nat→Prop)→Prop}(hx:Z r=Q)(hQ:Xa Q')
  (hn: ∀S,Q w S→ ∃S',Q' w' S'∧(∀i,S' i→S i∨w.heap.size≤i)∧Kept S w w') :Eg N w0 w' c a q (ZD Z r Q') s L:=by
 obtain ⟨X,hX,hZ,hN,h⟩:=h;refine ⟨ZD X r Q',fun k hk=>?_,fun k h1 h2=>?_,hN,?_⟩
 ·unfold ZD; split
  ·exact hQ
  ·exact hX k hk
 ·unfold ZD; split
  ·rfl
  ·exact hZ k h1 h2
 ·rw [←OJ UP];exact h.own (BK hX) Ze hr ((Bi UP).trans ((hZ r UP hr).trans hx)) hQ hn
theorem Eg.as (h:Eg N w0 w c a q Z s L){r:Nat}(UP:11≤r)(hr:r < N){Q Q':Zc→(Nat→Prop)→Prop}(hx:Z r=Q)(hQ:Xa Q')(hn: ∀S,Q w S→Q' w S) :Eg N w0 w c a q (ZD Z r Q') s L:=
 h.own UP hr hx hQ fun S hS=>⟨S,hn S hS,fun i hi=> .inl hi,ZH _ _⟩
theorem Eg.setc (h:Eg N w0 w c a q Z s L){r g t:Nat}{cs:Array Zl}(UP:11≤r)(hr:r < N)(hx:Z r=YW g t cs)(i:Nat)(u:Zl) :Eg N w0 (w.setCell ⟨g,i,none⟩ u) c a q (ZD Z r (YW g t (cs.setIfInBounds i u))) s L:=
 h.own UP hr hx stays_block fun S hS=>⟨S,⟨hS.1.set_ i u,hS.2⟩,fun i hi=> .inl hi,Qq (ZH _ _) (.inl ((hS.2 g).2 rfl)) _⟩
theorem Eg.setr (h:Eg N w0 w c a q Z s L){r g t:Nat}{cs cs':Array Zl}(UP:11≤r)(hr:r < N)(hx:Z r=YW g t cs)(hw:Blk w' g t cs')(hk:Kept (fun i=>i=g) w w') :Eg N w0 w' c a q (ZD Z r (YW g t cs')) s L:=
 h.own UP hr hx stays_block fun S hS=>⟨S,⟨hw,hS.2⟩,fun i hi=> .inl hi,hk.more fun i _ hi=>(hS.2 i).2 hi⟩
theorem Eg.more (h:Eg N w0 w c a q Z s L){Q:Zc→(Nat→Prop)→Prop}(hQ:Xa Q){S':Nat→Prop}(hq:Q w' S')(hS: ∀i,S' i→w.heap.size≤i)(hb:Zs w.heap.size w w') :Eg (N+1) w0 w' c a q (ZD Z N Q) s L:=by
 obtain ⟨X,hX,hN,h,_,k,_⟩:=h.open;exact k _ _ _ _ (h.more hX hN hQ hq hS hb) hQ rfl rfl
theorem Eg.fresh (h:Eg N w0 w c a q Z s L){e:ZN}{kk n:Nat}{v:Zl}{xs:List Zl}(ho:w'.ownsRow w.heap.size e kk v n xs)(hb:Zs w.heap.size w w') :Eg (N+1) w0 w' c a q (ZD Z N (YK e kk v n xs)) s L:=
 h.more stays_row (row_zero ho) (fun i hi=>(owns_lt ho i hi).1) hb
theorem Eg.remap {M:Nat}(h:Eg M w0 w c a q Z s L)(hN:11≤N)(f:Nat→Nat)(hf0: ∀k,k < 11→f k=k)(hf1: ∀k,11≤k→11≤f k)(hf: ∀k,k < N→f k < M)(ec: ∀j k,j < N→k < N→f j=f k→j=k)(hZ: ∀k,11≤k→k < N→Z' k=Z (f k)) :Eg N w0 w c a q Z' s L:=by
 obtain ⟨X,hX,hZ2,_,h⟩:=h;refine ⟨fun k=>X (f k),fun k hk=>hX _ (hf1 k hk),fun k h1 h2=>?_,hN,h.remap f (fun k hk=>hf0 k Ze) (fun k hk=>?_) hf ec fun k h1 h2=>?_⟩
 ·rw [hZ k h1 h2]; exact hZ2 _ (hf1 k h1) (hf k h2)
 ·rcases Ys k 11 with h1 | h1
  ·rw [hf0 k h1]; exact hk
  ·have:=hf1 k h1; omega
 ·rcases Ys k 11 with h3 | h3
  ·rw [hf0 k h3]
   rcases k with _ | _ | _ | _ | _ | _ | _ | _ | _ | _ | _ | k <;> first | rfl | omega
  ·rw [Bi h3,Bi (hf1 k h3)]
theorem Eg.pick {m:Nat}{Q:Zc→(Nat→Prop)→Prop}(h:Eg (N+m+1) w0 w c a q Z s L)(hN:11≤N)(hz: ∀k,11≤k→k < N→Z k=Z' k)(hQ:Z (N+m)=Q) :Eg (N+1) w0 w c a q (ZD Z' N Q) s L:=by
 refine h.remap Ze (fun k=>if k=N then N+m else k) (fun k hk=>if_neg Ze) (fun k hk=>by split <;> omega) (fun k hk=>by split <;> omega) (fun j k hj hk e=>?_) fun k h1 h2=>?_
 ·skip
  split at e <;> split at e <;> omega
 ·unfold ZD
  by_cases hk:k=N
  ·rw [if_pos hk,if_pos hk,hQ]
  ·rw [if_neg hk,if_neg hk]; exact (hz k h1 Ze).symm
theorem Eg.grow {ops:Array Oper}{rest:List Oper}{o:Oper}{d:Act}{Q:Exit→Act→Zc→Prop}(h:Eg N w0 w c a q Z s L){r:Nat}(UP:11≤r)(hr:r < N){e:ZN}{size n:Nat}{v:Zl}{xs:List Zl}(hx:Z r=YK e size v n xs)
  (DV:o.guard=none) (sl x:Operand) (t:ZN) (ho:o.op= .call { callee:= .builtin .append,args:= #[sl,x],argTypes:= #[t,t]}) (i:TypeInfo) (z:Zl) (bytes:Nat) (ht:Tryz.prog.underlying t=some (.slice e)) (hi:Tryz.prog.info? e=some i) (hz:i.zero=some z)
  (Lb:i.size=size) (LJ:i.bytes=bytes) (pI:z.cells.size=size) (Er:0 < size) (hs:d.eval sl=v) (m:Nat) (news:Array Zl) (te:ZN) (g:Nat) (hg:w.heap.size=g) (hx':d.eval x= .slice (some ⟨g,0,none⟩) m m) (hl:news.toList.length=m*size) (h1: ∀u ∈ news.toList,u.oneCell'=true)
  (mN:n+m≤Jp) (BQ:(n+m)*bytes≤140737488355328)
  (K: ∀v' w',Eg N w0 w' c a q (ZD Z r (YK e size v' (n+m) (xs++news.toList))) s L→w.heap.size≤w'.heap.size→wpList Zb ops Q rest (d.put o.dst v') w') :wpList Zb ops Q (o::rest) d (w.alloc (.cells news te)):=by
 obtain ⟨X,hX,hZ,hN,h⟩:=h;refine h.grow (BK hX) (show 8≤r by omega) hr ((Bi UP).trans ((hZ r UP hr).trans hx)) DV sl x t ho i z bytes ht hi hz Lb LJ pI Er hs m news te g hg hx' hl h1 mN BQ fun v' w' h' hle=>K v' w' ⟨ZD X r (YK e size v' (n+m) (xs++news.toList)),fun k hk=>?_,fun k h1 h2=>?_,hN,by rw [←OJ UP]; exact h'⟩ hle
 ·unfold ZD; split
  ·exact stays_row
  ·exact hX k hk
 ·unfold ZD; split
  ·rfl
  ·exact hZ k h1 h2
end
end
section
open Go Go.RowKit
section
variable {α:Type} {A:List α} {z x:α} {k:Nat}
def Kr (A:List α)(z:α)(k:Nat) :List α:=A.take k++Zy (A.length - k) z
theorem MA:Kr A z 0=Zy A.length z:=by simp [Kr]
theorem Og:Kr A z A.length=A:=by simp [Kr]
theorem Oh (h:k≤A.length) :(Kr A z k).length=A.length:=by simp [Kr]; omega
theorem Hs (h:k < A.length) :Kr A z k=A.take k++z::Zy (A.length -(k+1)) z:=by
 unfold Kr;rw [show A.length - k=(A.length -(k+1))+1 by omega,List.replicate_succ]
theorem Mz (h:A[k]?=some x) :Kr A z (k+1)=A.take k++x::Zy (A.length -(k+1)) z:=by
 unfold Kr;rw [YR,h,Qt,List.append_assoc]; rfl
theorem kH (h:A[k]?=some x) :(Kr A z k).set k x=Kr A z (k+1):=by
 have hk:=(Zi.1 h).1;have hl:(A.take k).length=k:=by rw [Xl]; omega
 rw [Hs hk,Mz h,List.set_append_right (h:=by omega),hl,Nat.sub_self];rfl
end
theorem bu (x y:Zl) : ∀n:Nat,madeCells #[x,y] (n*2)=((Zy n [x,y]).flatten).toArray:=fun n=>by
 apply Array.toList_inj.1;unfold madeCells;rw [Array.toList_map,Array.toList_range]
 induction n with
 | zero=>rfl
 | succ n ih=>
  rw [show (n+1)*2=n*2+1+1 by omega,Gu,Gu,XS,XS,ih,List.replicate_succ',List.flatten_append];have h1:n*2%(#[x,y] :Array Zl).size=0:=by show n*2%2=0; omega
  have h2:(n*2+1)%(#[x,y] :Array Zl).size=1:=by show (n*2+1)%2=1; omega
  simp [h1,h2]
theorem SH {w:Zc}{g t k n:Nat}{xs:List Zl}(h:Blk w g t xs.toArray)(hl:xs.length=n*k)(hn:n≤Jp) :w.ownsRow 0 t k (.slice (some ⟨g,0,none⟩) n n) n xs:=
 ⟨hl,.inr ⟨g,n,_,rfl,XL _,h,Zg _,hn,by simpa using hl,Yv zB13_2⟩⟩
section
variable {N:Nat} {w0:DR} {w w' w1:Zc} {c:Nat→Int} {a:Pl} {q:Ql} {Z:Nat→Zc→(Nat→Prop)→Prop} {s s':Sg} {L L':List QT}
theorem Eg.torow (h:Eg N w0 w c a q Z s L){r g t k n:Nat}{xs:List Zl}(UP:11≤r)(hr:r < N)(hx:Z r=YW g t xs.toArray)(hl:xs.length=n*k)(hn:n≤Jp) :Eg N w0 w c a q (ZD Z r (YK t k (.slice (some ⟨g,0,none⟩) n n) n xs)) s L:=
 h.as UP hr hx stays_row fun S hS=>⟨SH hS.1 hl hn,fun i=>by rw [hS.2 i]; simp [Y4]; exact eq_comm⟩
end
end
section
open Go Go.RowKit Go.Deep
section
variable {N:Nat} {w0:DR} {w w' w1:Zc} {c:Nat→Int} {a:Pl} {q:Ql} {X Z:Nat→Zc→(Nat→Prop)→Prop} {s s':Sg} {L L':List QT}
theorem FB (l:List (Int × Int)) :(JA l).length=l.length*2:=UO (row:=JE) (k:=2) (fun _=>rfl) l
theorem vM: ∃i,Tryz.prog.info? 73=some i∧i.zero=some (.agg #[.int .i64 0,.int .i64 0])∧i.size=2∧i.bytes=16:=by
 have h:(Tryz.prog.info? 73).map (fun i=>(i.zero,i.size,i.bytes))=some (some (.agg #[.int .i64 0,.int .i64 0]),2,16):=by kernel_rfl
 cases hi:Tryz.prog.info? 73 with
 | none=>rw [hi] at h; cases h
 | some i=>
  rw [hi] at h;simp at h;exact ⟨i,rfl,h.1,h.2.1,h.2.2⟩
theorem cc (n:Nat)(hn:n≤100000)(w:Zc) :
  (V5 48 (.int .i64 (n:Int)) (.int .i64 (n:Int))).run Zb w= .ok (.slice (some ⟨w.heap.size,0,none⟩) n n) (w.alloc (.cells (JA (Zy n ((0:Int),(0:Int)))).toArray 73)):=by
 obtain ⟨i,hi,hz,hs,LJ⟩:=vM;have Dw:=QZ (P:=Zb) 48 73 i _ Tryz.underlying48 hi hz .i64 .i64 n n (Zg _) TI Ze w;rw [hs] at Dw;have e:JA (Zy n ((0:Int),(0:Int)))=(Zy n [(#[.int .i64 0,.int .i64 0])[0],(#[.int .i64 0,.int .i64 0])[1]]).flatten:=by unfold JA Yl; rw [List.flatMap_def,GF]; rfl
 rw [e];have td:(Value.agg #[.int .i64 0,.int .i64 0]).cells= #[.int .i64 0,.int .i64 0]:=rfl;rw [td,bu] at Dw;exact Dw
theorem vN {NEW:List (Int × Int)} : ∀j,j≠8→Pt c a (XE c a q NEW s.pt X) { s with mg:=NEW} L j=Pt c a (XE c a q s.mg s.pt X) s L j:=fun j hj=>by
 rcases j with _ | _ | _ | _ | _ | _ | _ | _ | _ | _ | _ | j <;> first | rfl | exact absurd rfl hj
theorem Eg.mcall (h:Eg N w0 w c a q Z s L)(hb:Zs w.heap.size w w1){NEW:List (Int × Int)}{f:FuncId}{args:Array Zl}{v:Zl}
  (hK: ∀go,(∀i,Foot q.d go i→i < w.heap.size)→RingAt 192 73 2 w1 q.d go (c 1).toNat s.mg.length (JA s.mg)→Zj Zb f args w1 fun e w'=>e= .returned v∧ ∃go',RingAt 192 73 2 w' q.d go' (c 1).toNat NEW.length (JA NEW)∧Moved w1 go go'∧Kept (Foot q.d go) w1 w') :
  Zj Zb f args w1 fun e w'=>e= .returned v∧Eg N w0 w' c a q Z { s with mg:=NEW} L∧w1.heap.size≤w'.heap.size:=by
 obtain ⟨X,hX,hZ,hN,h⟩:=h;exact (h.rcall (X':=XE c a q NEW s.pt X) (s':= { s with mg:=NEW}) (k:=8) (BK hX) hb Ze rfl rfl vN hK).mono fun e w' ⟨he,h1,h2⟩=>⟨he,⟨X,hX,hZ,hN,h1⟩,h2⟩
theorem Eg.mlen (h:Eg N w0 w c a q Z s L) :Zj Zb 315 #[.pointer (some ⟨q.d,0,none⟩)] w fun e w'=>e= .returned (.int .i64 s.mg.length)∧w=w':=by
 obtain ⟨X,hX,hZ,hN,h⟩:=h;obtain ⟨S,⟨go,hp,_⟩,_⟩:=h.part (k:=8) (show 8 < N by omega);exact SS q.d _ w hp.cells.2
theorem Eg.mpop (h:Eg N w0 w c a q Z s L){p:Int × Int}{rest:List (Int × Int)}(hm:s.mg=p::rest) :Zj Zb 316 #[.pointer (some ⟨q.d,0,none⟩)] w fun e w'=>e= .returned (.tuple #[.agg (cellsP p),.bool true])∧Eg N w0 w' c a q Z { s with mg:=rest} L∧w.heap.size≤w'.heap.size:=
 h.mcall (Zp _ _) fun go XP hr=>by
  rw [hm] at hr;exact (lL q.d _ rest.length go (JA rest) (.int .i64 p.1) (.int .i64 p.2) w hr).mono fun e w' ⟨he,h1,h2⟩=>⟨he,go,h1,fun i hi=> .inl hi,h2⟩
theorem Eg.mpush (h:Eg N w0 w c a q Z s L)(p:Int × Int)(hl:(s.mg.length:Int)< c 1) :Zj Zb 131 #[.pointer (some ⟨q.d,0,none⟩),.slice (some ⟨w.heap.size,0,none⟩) 1 1] (w.alloc (.cells (cellsP p) 73)) fun e w'=>e= .returned (.int .i64 1)∧Eg N w0 w' c a q Z { s with mg:=s.mg++[p]} L:=by
 have Sj:min 1 ((c 1).toNat - s.mg.length)=1:=by omega
 refine (h.mcall ((Zp _ _).alloc (Zg _) _) fun go XP hr=>?_).mono fun e w' ⟨he,h1,_⟩=>⟨he,h1⟩
 have hK:=Pj q.d (c 1).toNat s.mg.length 1 1 go _ (JA s.mg) (cellsP p).toList _ hr (NK w (cellsP p) _ 1 2 rfl (fun v hv=>ZT.1 (Uv p) v Rs) _ XP) Ze Ze;rw [Sj] at hK;refine hK.mono ?_;rintro e w' ⟨rfl,go',h1,h2,h3⟩;refine ⟨rfl,go',?_,h2,h3⟩;rw [ZE,show JA (s.mg++[p])=JA s.mg++JE p by unfold JA; rw [JP,EO]];exact h1
theorem Eg.mfull (h:Eg N w0 w c a q Z s L)(p:Int × Int)(hl:c 1≤(s.mg.length:Int)) :Zj Zb 131 #[.pointer (some ⟨q.d,0,none⟩),.slice (some ⟨w.heap.size,0,none⟩) 1 1] (w.alloc (.cells (cellsP p) 73)) fun e w'=>e= .returned (.int .i64 0)∧Eg N w0 w' c a q Z s L:=by
 have Sj:min 1 ((c 1).toNat - s.mg.length)=0:=by omega
 refine (h.mcall (NEW:=s.mg) ((Zp _ _).alloc (Zg _) _) fun go XP hr=>?_).mono fun e w' ⟨he,h1,_⟩=>⟨he,h1⟩
 have hK:=Pj q.d (c 1).toNat s.mg.length 1 1 go _ (JA s.mg) (cellsP p).toList _ hr (NK w (cellsP p) _ 1 2 rfl (fun v hv=>ZT.1 (Uv p) v Rs) _ XP) Ze Ze;exact Zgz
theorem Eg.mall (h:Eg N w0 w c a q Z s L) :Zj Zb 59 #[.pointer (some ⟨q.d,0,none⟩)] w fun e w'=>e= .returned (.slice (some ⟨w.heap.size,0,none⟩) s.mg.length s.mg.length)∧Eg (N+1) w0 w' c a q (ZD Z N (YW w.heap.size 73 (JA s.mg).toArray)) s L∧Zs w.heap.size w w':=by
 have h':=h;obtain ⟨X,hX,hZ,hN,h⟩:=h;obtain ⟨S,⟨go,hp,_⟩,_⟩:=h.part (k:=8) (show 8 < N by omega);refine (fx q.d _ _ go _ w hp).mono ?_;exact Zge
theorem Eg.mstore (h:Eg N w0 w c a q Z s L){r g j:Nat}{A:List (Int × Int)}{p:Int × Int}(UP:11≤r)(hr:r < N)(hx:Z r=YW g 73 (JA (Kr A ((0:Int),(0:Int)) j)).toArray)(hj:A[j]?=some p) :
  w.there g (j*2) 2∧Eg N w0 (w.setCells g (j*2) (cellsP p).toList) c a q (ZD Z r (YW g 73 (JA (Kr A ((0:Int),(0:Int)) (j+1))).toArray)) s L:=by
 have DW:=(Zi.1 hj).1;have hB:=h.blkAt UP hr hx;have e1:JA (Kr A ((0:Int),(0:Int)) j)=JA (A.take j)++JE ((0:Int),(0:Int))++JA (Zy (A.length -(j+1)) ((0:Int),(0:Int))):=by
  rw [Hs DW]; unfold JA; exact jB
 have e2:JA (Kr A ((0:Int),(0:Int)) (j+1))=JA (A.take j)++JE p++JA (Zy (A.length -(j+1)) ((0:Int),(0:Int))):=by
  rw [Mz hj]; unfold JA; exact jB
 have el:(JA (A.take j)).length=j*2:=by rw [FB,Xl,Gv Ze]
 refine ⟨fun i hi=>⟨?_,hB.frozen _⟩,?_⟩
 ·rw [hB.cell,YL,Zf (by rw [FB,Oh Ze]; omega)]; rfl
 ·have TS:=hB;rw [e1] at TS;have h2:=UM (JE p) (JA (A.take j)) (JE ((0:Int),(0:Int))) _ w rfl TS;exact zw
theorem FH (l:List (Rq)) :(Jo l).length=l.length*2:=UO (row:=Us) (k:=2) (fun _=>rfl) l
theorem wk: ∃i,Tryz.prog.info? 75=some i∧i.zero=some (.agg #[.int .i64 0,.int .u64 0])∧i.size=2∧i.bytes=16:=by
 have h:(Tryz.prog.info? 75).map (fun i=>(i.zero,i.size,i.bytes))=some (some (.agg #[.int .i64 0,.int .u64 0]),2,16):=by kernel_rfl
 exact Zgl
theorem cg (n:Nat)(hn:n≤100000)(w:Zc) :
  (V5 49 (.int .i64 (n:Int)) (.int .i64 (n:Int))).run Zb w= .ok (.slice (some ⟨w.heap.size,0,none⟩) n n) (w.alloc (.cells (Jo (Zy n L8)).toArray 75)):=by
 obtain ⟨i,hi,hz,hs,LJ⟩:=wk;have Dw:=QZ (P:=Zb) 49 75 i _ Tryz.underlying49 hi hz .i64 .i64 n n (Zg _) TI Ze w;rw [hs] at Dw;have e:Jo (Zy n L8)=(Zy n [(#[.int .i64 0,.int .u64 0])[0],(#[.int .i64 0,.int .u64 0])[1]]).flatten:=by unfold Jo Yl; rw [List.flatMap_def,GF]; rfl
 rw [e];have td:(Value.agg #[.int .i64 0,.int .u64 0]).cells= #[.int .i64 0,.int .u64 0]:=rfl;rw [td,bu] at Dw;exact Dw
theorem wm {NEW:List (Rq)} : ∀j,j≠9→Pt c a (XE c a q s.mg NEW X) { s with pt:=NEW} L j=Pt c a (XE c a q s.mg s.pt X) s L j:=fun j hj=>by
 rcases j with _ | _ | _ | _ | _ | _ | _ | _ | _ | _ | _ | j <;> first | rfl | exact absurd rfl hj
theorem Eg.tcall (h:Eg N w0 w c a q Z s L)(hb:Zs w.heap.size w w1){NEW:List (Rq)}{f:FuncId}{args:Array Zl}{v:Zl}
  (hK: ∀go,(∀i,Foot q.q go i→i < w.heap.size)→RingAt 195 75 2 w1 q.q go (c 1).toNat s.pt.length (Jo s.pt)→Zj Zb f args w1 fun e w'=>e= .returned v∧ ∃go',RingAt 195 75 2 w' q.q go' (c 1).toNat NEW.length (Jo NEW)∧Moved w1 go go'∧Kept (Foot q.q go) w1 w') :
  Zj Zb f args w1 fun e w'=>e= .returned v∧Eg N w0 w' c a q Z { s with pt:=NEW} L∧w1.heap.size≤w'.heap.size:=by
 obtain ⟨X,hX,hZ,hN,h⟩:=h;exact (h.rcall (X':=XE c a q s.mg NEW X) (s':= { s with pt:=NEW}) (k:=9) (BK hX) hb Ze rfl rfl wm hK).mono fun e w' ⟨he,h1,h2⟩=>⟨he,⟨X,hX,hZ,hN,h1⟩,h2⟩
theorem Eg.tlen (h:Eg N w0 w c a q Z s L) :Zj Zb 300 #[.pointer (some ⟨q.q,0,none⟩)] w fun e w'=>e= .returned (.int .i64 s.pt.length)∧w=w':=by
 obtain ⟨X,hX,hZ,hN,h⟩:=h;obtain ⟨S,⟨go,hp,_⟩,_⟩:=h.part (k:=9) (show 9 < N by omega);exact Tf q.q _ w hp.cells.2
theorem Eg.tpop (h:Eg N w0 w c a q Z s L){p:Rq}{rest:List (Rq)}(hm:s.pt=p::rest) :Zj Zb 301 #[.pointer (some ⟨q.q,0,none⟩)] w fun e w'=>e= .returned (.tuple #[.agg (ZA p),.bool true])∧Eg N w0 w' c a q Z { s with pt:=rest} L∧w.heap.size≤w'.heap.size:=
 h.tcall (Zp _ _) fun go XP hr=>by
  rw [hm] at hr;exact (lU q.q _ rest.length go (Jo rest) (.int .i64 p.ix) (.int .u64 p.am) w hr).mono fun e w' ⟨he,h1,h2⟩=>⟨he,go,h1,fun i hi=> .inl hi,h2⟩
theorem Eg.tpush (h:Eg N w0 w c a q Z s L)(p:Rq)(hl:(s.pt.length:Int)< c 1) :Zj Zb 133 #[.pointer (some ⟨q.q,0,none⟩),.slice (some ⟨w.heap.size,0,none⟩) 1 1] (w.alloc (.cells (ZA p) 75)) fun e w'=>e= .returned (.int .i64 1)∧Eg N w0 w' c a q Z { s with pt:=s.pt++[p]} L:=by
 have Sj:min 1 ((c 1).toNat - s.pt.length)=1:=by omega
 refine (h.tcall ((Zp _ _).alloc (Zg _) _) fun go XP hr=>?_).mono fun e w' ⟨he,h1,_⟩=>⟨he,h1⟩
 have hK:=Pp q.q (c 1).toNat s.pt.length 1 1 go _ (Jo s.pt) (ZA p).toList _ hr (NK w (ZA p) _ 1 2 rfl (fun v hv=>ZT.1 (Ky p) v Rs) _ XP) Ze Ze;rw [Sj] at hK;refine hK.mono ?_;rintro e w' ⟨rfl,go',h1,h2,h3⟩;refine ⟨rfl,go',?_,h2,h3⟩;rw [ZE,show Jo (s.pt++[p])=Jo s.pt++Us p by unfold Jo; rw [JP,EO]];exact h1
theorem Eg.tfull (h:Eg N w0 w c a q Z s L)(p:Rq)(hl:c 1≤(s.pt.length:Int)) :Zj Zb 133 #[.pointer (some ⟨q.q,0,none⟩),.slice (some ⟨w.heap.size,0,none⟩) 1 1] (w.alloc (.cells (ZA p) 75)) fun e w'=>e= .returned (.int .i64 0)∧Eg N w0 w' c a q Z s L:=by
 have Sj:min 1 ((c 1).toNat - s.pt.length)=0:=by omega
 refine (h.tcall (NEW:=s.pt) ((Zp _ _).alloc (Zg _) _) fun go XP hr=>?_).mono fun e w' ⟨he,h1,_⟩=>⟨he,h1⟩
 have hK:=Pp q.q (c 1).toNat s.pt.length 1 1 go _ (Jo s.pt) (ZA p).toList _ hr (NK w (ZA p) _ 1 2 rfl (fun v hv=>ZT.1 (Ky p) v Rs) _ XP) Ze Ze;exact Zgz
theorem Eg.tall (h:Eg N w0 w c a q Z s L) :Zj Zb 60 #[.pointer (some ⟨q.q,0,none⟩)] w fun e w'=>e= .returned (.slice (some ⟨w.heap.size,0,none⟩) s.pt.length s.pt.length)∧Eg (N+1) w0 w' c a q (ZD Z N (YW w.heap.size 75 (Jo s.pt).toArray)) s L∧Zs w.heap.size w w':=by
 have h':=h;obtain ⟨X,hX,hZ,hN,h⟩:=h;obtain ⟨S,⟨go,hp,_⟩,_⟩:=h.part (k:=9) (show 9 < N by omega);refine (fL q.q _ _ go _ w hp).mono ?_;exact Zge
theorem Eg.tstore (h:Eg N w0 w c a q Z s L){r g j:Nat}{A:List (Rq)}{p:Rq}(UP:11≤r)(hr:r < N)(hx:Z r=YW g 75 (Jo (Kr A L8 j)).toArray)(hj:A[j]?=some p) :
  w.there g (j*2) 2∧Eg N w0 (w.setCells g (j*2) (ZA p).toList) c a q (ZD Z r (YW g 75 (Jo (Kr A L8 (j+1))).toArray)) s L:=by
 have DW:=(Zi.1 hj).1;have hB:=h.blkAt UP hr hx;have e1:Jo (Kr A L8 j)=Jo (A.take j)++Us L8++Jo (Zy (A.length -(j+1)) L8):=by
  rw [Hs DW]; unfold Jo; exact jB
 have e2:Jo (Kr A L8 (j+1))=Jo (A.take j)++Us p++Jo (Zy (A.length -(j+1)) L8):=by
  rw [Mz hj]; unfold Jo; exact jB
 have el:(Jo (A.take j)).length=j*2:=by rw [FH,Xl,Gv Ze]
 refine ⟨fun i hi=>⟨?_,hB.frozen _⟩,?_⟩
 ·rw [hB.cell,YL,Zf (by rw [FH,Oh Ze]; omega)]; rfl
 ·have TS:=hB;rw [e1] at TS;have h2:=UM (Us p) (Jo (A.take j)) (Us L8) _ w rfl TS;exact zw
end
end
section
open Go Go.RowKit
section
variable {N:Nat} {w0:DR} {w w' w1:Zc} {c:Nat→Int} {a:Pl} {q:Ql} {Z:Nat→Zc→(Nat→Prop)→Prop} {s s':Sg} {L L':List QT}
theorem dJ (h:Eg N w0 w c a q Z s L) :Zj Zb 53 #[.pointer (some ⟨q.e,20,none⟩)] w fun e w'=>e= .returned (.int .i64 s.bk)∧w=w':=by
 have x0:w.cell? ⟨q.e,20,none⟩=some (.pointer (some ⟨a.c,0,none⟩)):=h.blk.cell 20;obtain ⟨X,hX,hN,hh,_⟩:=h.open;have H:=Za (hh.block hN);clear h hh hX hN;go_enter Tryz.func53,Tryz.ntmps53;exact zm
theorem Bd (h:Eg N w0 w c a q Z s L)(h0:0≤s.bk)(h1:s.bk≤9223372036854775807)(hL:1≤c 13)(he:s.ep=s.bk/c 13) :
  Zj Zb 54 #[.pointer (some ⟨q.e,20,none⟩)] w fun e w'=>e= .returned (.int .i64 s.ep)∧ ∃m,w'=w.drewN m:=by
 have x0:w.cell? ⟨q.e,20,none⟩=some (.pointer (some ⟨a.c,0,none⟩)):=h.blk.cell 20;obtain ⟨X,hX,hN,hh,_⟩:=h.open;have H:=Za (hh.epoch hN h0 h1 hL he);clear h hh hX hN h0 h1 hL he;go_enter Tryz.func54,Tryz.ntmps54;exact ZgF
theorem oy (h:Eg N w0 w c a q Z s L)(h0:0≤s.bk)(h1:s.bk≤9223372036854775806)(hL:1≤c 13) :
  Zj Zb 134 #[.pointer (some ⟨q.e,20,none⟩)] w fun e w'=>e= .returned (.bool ((s.bk+1)%c 13==0))∧Eg N w0 w' c a q Z { s with bk:=s.bk+1} L:=by
 have x0:w.cell? ⟨q.e,20,none⟩=some (.pointer (some ⟨a.c,0,none⟩)):=h.blk.cell 20;obtain ⟨X,hX,hN,hh,hK,_⟩:=h.open;have H:=Za (hh.tick hX hN h0 h1 hL);have HK:=Za hK;generalize ((s.bk+1)%c 13==0)=B at*;clear h hh hX hN h0 h1 hL hK;go_enter Tryz.func134,Tryz.ntmps134;go_wp2_with fail;refine H.out.mono ?_;rintro e w' ⟨rfl,h2⟩;have h2:=Za (HK.out _ _ _ h2 rfl rfl);go_wp2_with fail;go_ret;exact ⟨rfl,h2.out⟩
theorem Zed (h:Eg N w0 w c a q Z s L){n:Nat}{v v':Yd}{x:Int}(hv:s.V[n]?=some v)(hf:Yo v')(ht:Zz s.V - v.bal+v'.bal≤18446744073709551615)(hF:JJ s.D s.P s.B (c 4))(x0:0≤x)(hx:x≤s.D - s.P - s.B) :
  Zj Zb 219 #[.pointer (some ⟨q.e,21,none⟩),.int .i64 (n:Int),.agg (Zd v'),.int .u64 x] w fun e w'=>e= .returned (.tuple #[])∧Eg N w0 w' c a q Z { s with V:=s.V.set n v',P:=s.P+x} L:=by
 have hN:=h.low;have h1:=h.box (Zd v') 63;have y0:(w.alloc (.cells (Zd v') 63)).cell? ⟨q.e,21,none⟩=some (.pointer (some ⟨a.r,0,none⟩)):=h1.blk.cell 21;have hb:Blk (w.alloc (.cells (Zd v') 63)) w.heap.size 63 (Zd v'):=Zv _ _ _;have HB:=Za hb;obtain ⟨X,hX,Uf,hh,hK,_⟩:=h1.open;have H:=Za (fun m=>(hh.drewN hX m).set hX Uf hv hf ht);have HK:=Za hK;have HP:Hid (∀w2 X,(∀k,8≤k→Xa (X k))→En (N+1) w0 w2 c a X { s with V:=s.V.set n v'} L→_):=Za fun w2 X hX he=>En.pay he hX Uf hF x0 hx
 have HN:=Za hN;clear h h1 hv hf ht hF x0 hx hK hh hX hN hb Uf;go_enter Tryz.func219,Tryz.ntmps219;exact ZfD
theorem Zd9 (h:Eg N w0 w c a q Z s L){n:Nat}{v v':Yd}{x:Int}(hv:s.V[n]?=some v)(hf:Yo v')(ht:Zz s.V - v.bal+v'.bal≤18446744073709551615)(hF:JJ s.D s.P s.B (c 4))(x0:0≤x)(hx:x≤s.D - s.P - s.B) :
  Zj Zb 127 #[.pointer (some ⟨q.e,21,none⟩),.int .i64 (n:Int),.agg (Zd v'),.int .u64 x] w fun e w'=>e= .returned (.tuple #[])∧Eg N w0 w' c a q Z { s with V:=s.V.set n v',B:=s.B+x} L:=by
 have hN:=h.low;have h1:=h.box (Zd v') 63;have y0:(w.alloc (.cells (Zd v') 63)).cell? ⟨q.e,21,none⟩=some (.pointer (some ⟨a.r,0,none⟩)):=h1.blk.cell 21;have hb:Blk (w.alloc (.cells (Zd v') 63)) w.heap.size 63 (Zd v'):=Zv _ _ _;have HB:=Za hb;obtain ⟨X,hX,Uf,hh,hK,_⟩:=h1.open;have H:=Za (fun m=>(hh.drewN hX m).set hX Uf hv hf ht);have HK:=Za hK;have HP:Hid (∀w2 X,(∀k,8≤k→Xa (X k))→En (N+1) w0 w2 c a X { s with V:=s.V.set n v'} L→_):=Za fun w2 X hX he=>En.burn he hX Uf hF x0 hx
 have HN:=Za hN;clear h h1 hv hf ht hF x0 hx hK hh hX hN hb Uf;go_enter Tryz.func127,Tryz.ntmps127;exact ZfD
theorem yu (h:Eg N w0 w c a q Z s L)(cl:Int) :Zj Zb 125 #[.pointer (some ⟨q.e,24,none⟩),.int .i64 cl] w fun e w'=>e= .returned (.bool (((Hw (c 1).toNat s.F s.W cl:Nat) :Int)==0))∧ ∃m,w'=w.drewN m:=by
 have x0:w.cell? ⟨q.e,24,none⟩=some (.pointer (some ⟨a.n,0,none⟩)):=h.blk.cell 24;obtain ⟨X,hX,hN,hh,_⟩:=h.open;have H:=Za (hh.lfree hN cl);generalize Hw (c 1).toNat s.F s.W cl=f at*;clear h hh hX hN;go_enter Tryz.func125,Tryz.ntmps125;exact ZgF
theorem oA (h:Eg N w0 w c a q Z s L){i:Int}{v:Yd}(h0:0≤v.wd)(h1:v.wd≤1099511627776)(hL:L.length≤100000) :
  Zj Zb 129 #[.pointer (some ⟨q.e,24,none⟩),.int .i64 i,.agg (Zd v)] w fun e w'=>e= .returned (.tuple #[])∧Eg N w0 w' c a q Z s (L++[(v.wd,i)]):=by
 have hN:=h.low;have h2:=h.box (Zd v) 63;have y0:(w.alloc (.cells (Zd v) 63)).cell? ⟨q.e,26,none⟩=some (.pointer (some ⟨a.u,0,none⟩)):=h2.blk.cell 26;have y1:(w.alloc (.cells (Zd v) 63)).cell? ⟨w.heap.size,5,none⟩=some (.int .i64 v.wd):=(Zv w 63 (Zd v)).cell 5;obtain ⟨X,hX,Uf,hh,hK,_⟩:=h2.open;have H:=Za (fun m=>(hh.drewN hX m).put hX Uf (it:=i) h0 h1 hL);have HK:=Za hK;have HN:=Za hN;generalize v.wd=t at*;clear h h2 h0 h1 hL hX Uf hh hK hN;go_enter Tryz.func129,Tryz.ntmps129;go_upto_region 1 with (fail);generalize w.alloc (.cells (Zd v) 63)=W at*;refine wqT 7 ?_;refine BA ?_;refine gL ?_;refine Qc ?_;intro _ JB;obtain ⟨nr,Xh⟩:=JB;subst Xh;go_wp2_with fail;refine (H.out nr).mono ?_;rintro e w2 ⟨rfl,h2⟩;have h4:=Za ((HK.out _ _ _ h2 rfl rfl).drop HN.out);clear h2 HK H y0 y1;go_wp2_with fail;go_end0;exact ⟨rfl,h4.out⟩
theorem uK (h:Eg N w0 w c a q Z s L){x:Int}(hF:JJ s.D s.P s.B (c 4))(x0:0≤x)(x1:x≤18446744073709551615)(hx:c 4 -(s.D - s.P - s.B)< x∨(x≤c 4 -(s.D - s.P - s.B)∧18446744073709551615 < s.D+x)) :
  Zj Zb 121 #[.pointer (some ⟨q.e,21,none⟩),.int .u64 x] w fun e w'=>e= .returned (.tuple #[.int .i64 (-1),.int .i64 (if c 4 -(s.D - s.P - s.B)< x then 4 else 10)])∧Zs w.heap.size w w':=by
 have y0:w.cell? ⟨q.e,22,none⟩=some (.pointer (some ⟨a.l,0,none⟩)):=h.blk.cell 22;obtain ⟨X,hX,hN,hh,_⟩:=h.open;have H:Hid (Zj Zb 180 #[.pointer (some ⟨a.l,0,none⟩),.int .u64 x] w fun e w'=>e= .returned (.int .i64 (if c 4 -(s.D - s.P - s.B)< x then 4 else 10))∧Zs w.heap.size w w'):=Za (by
  obtain ⟨S,hp,_⟩:=hh.part (show 1 < N by omega)
  rcases hx with hx | ⟨hx,ho⟩
  ·rw [if_pos hx]; exact (RY a.l _ _ _ _ x w hp.1 hF hx).mono fun e w' ⟨he,m,hm⟩=>⟨he,hm▸below_drewN (Zp _ _) m⟩
  ·rw [if_neg Ze]; exact (Ch a.l _ _ _ _ x w hp.1 hF x0 x1 hx ho).mono fun e w' ⟨he,hb⟩=>⟨he,by first | exact hb | (obtain ⟨m,rfl⟩:=hb; exact below_drewN (Zp _ _) m)⟩)
 obtain ⟨k,hk⟩ : ∃k:Int,(if c 4 -(s.D - s.P - s.B)< x then 4 else 10)=k:=⟨_,rfl⟩;have aL:(k != 0)=true:=by rw [←hk]; split <;> rfl
 rw [hk] at H;rw [hk];clear h hh hX hN hF x0 x1 hx hk;go_enter Tryz.func121,Tryz.ntmps121;go_wp2_with fail;refine H.out.mono ?_;rintro e w' ⟨rfl,hb⟩;have HB:=Za hb;clear hb H;go_wp2_with fail;go_ret2;exact ⟨rfl,HB.out⟩
theorem Zij (h:Eg N w0 w c a q Z s L){x:Int}(hF:JJ s.D s.P s.B (c 4))(x0:0≤x)(x1:x≤18446744073709551615)(hx:x≤c 4 -(s.D - s.P - s.B))(ho:s.D+x≤18446744073709551615)(hl:(s.V.length:Int)< c 0)(ht:Zz s.V+x≤18446744073709551615) :
  Zj Zb 121 #[.pointer (some ⟨q.e,21,none⟩),.int .u64 x] w fun e w'=>e= .returned (.tuple #[.int .i64 s.V.length,.int .i64 0])∧Eg N w0 w' c a q Z { s with V:=s.V++[MH x],D:=s.D+x} L:=by
 have y0:w.cell? ⟨q.e,22,none⟩=some (.pointer (some ⟨a.l,0,none⟩)):=h.blk.cell 22;obtain ⟨X,hX,hN,hh,hK,_⟩:=h.open;have H:=Za (hh.deposit hX hN hF x0 hx ho);have HK:=Za hK;have Dv:Yo (MH x):=(qi (e:=0) x0 x1).fit;have HP:Hid (∀w2 X,(∀k,8≤k→Xa (X k))→En N w0 w2 c a X { s with D:=s.D+x} L→_):=Za fun w2 X hX he=>En.add he hX hN Dv hl (by show Zz s.V+x≤_; exact ht)
 obtain ⟨m,hm⟩ : ∃m,s.V.length=m:=⟨_,rfl⟩;rw [hm] at HP ⊢;clear h hh hX hN hF x0 hx ho hl ht hK Dv hm;go_enter Tryz.func121,Tryz.ntmps121;go_wp2_with fail;refine H.out.mono ?_;rintro e w2 ⟨rfl,h2⟩;have h3:=HK.out _ _ _ h2 rfl rfl;have y1:w2.cell? ⟨q.e,21,none⟩=some (.pointer (some ⟨a.r,0,none⟩)):=h3.blk.cell 21;obtain ⟨X2,hX2,hN2,hh2,Wb,_⟩:=h3.open;have H2:=Za (HP.out _ _ hX2 hh2);have M4:=Za Wb;clear h2 h3 hX2 hN2 hh2 Wb H HP HK y0;go_wp2_with (first | (refine UY rfl 63 _ rfl (MH x) Ye ?_));refine H2.out.mono ?_;rintro e w3 ⟨rfl,h4⟩;have h4:=Za (M4.out _ _ _ h4 rfl rfl);clear M4 H2;go_wp2_with fail;go_ret2;exact ⟨rfl,h4.out⟩
structure Tm (c:Nat→Int)(s:Sg) :Prop where
 b0:0≤s.bk
 b1:s.bk≤9223372036854775807
 l:1≤c 13
 q:s.ep=s.bk/c 13
theorem Inv.tm {k:Nat}(hc:GE c)(h:Inv c k s)(hk:k≤1000000) :Tm c s:=⟨h.bk0,by have:=h.bk1; omega,hc.g.len0,h.epq⟩
def Of (N:Nat)(w0:DR)(w:Zc)(c:Nat→Int)(a:Pl)(q:Ql)(Z:Nat→Zc→(Nat→Prop)→Prop)(s:Sg)(L:List QT)(b:Nat)(o:Oq) :Prop:=
 Eg (N+2) w0 w c a q (ZD (ZD Z N (YW b 37 (ZM o))) (N+1) (YW (b+1) 42 (Zw Gg))) s L
theorem DA (h:Eg N w0 w c a q Z s L)(o:Oq) :Of N w0 ((w.alloc (.cells (ZM o) 37)).alloc (.cells (Zw Gg) 42)) c a q Z s L w.heap.size o:=by
 have h2:=(h.box (ZM o) 37).box (Zw Gg) 42;rw [show (w.alloc (.cells (ZM o) 37)).heap.size=w.heap.size+1 by simp] at h2;exact h2
variable {b:Nat} {o:Oq}
theorem Of.op (h:Of N w0 w c a q Z s L b o)(hN:11≤N) :Blk w b 37 (ZM o):=Eg.blkAt h hN Ze Ug
theorem Of.rc (h:Of N w0 w c a q Z s L b o)(hN:11≤N) :Blk w (b+1) 42 (Zw Gg):=Eg.blkAt h (r:=N+1) Ze Ze xput_same
theorem Of.done (h:Of N w0 w c a q Z s L b o)(hN:11≤N)(cs:Array Zl) :Eg N w0 (w.setRow (b+1) cs) c a q Z s L:=by
 have h2:Eg (N+2) w0 (w.setRow (b+1) cs) c a q _ s L:=Eg.setr h (r:=N+1) Ze Ze xput_same (cs':=cs) (Blk.setRow (h.rc hN) cs) (Kept.setRow (S:=fun i=>i=b+1) (ZH _ _) (.inl rfl) cs);exact ((h2.less Ze).less hN).ext fun k h1 h3=>by rw [xput_ne Ze,xput_ne Ze,xput_ne Ze]
end
end
section
open Go Go.RowKit Go.Deep
section
variable {N:Nat} {w0:DR} {w w' w1:Zc} {c:Nat→Int} {a:Pl} {q:Ql} {Z:Nat→Zc→(Nat→Prop)→Prop} {s s':Sg} {L L':List QT}
theorem Vw (h:Eg N w0 w c a q Z s L)(t:Tm c s)(o:Oq)(k:Int) :Zj Zb 39 #[.pointer (some ⟨q.e,0,none⟩),.agg (ZM o),.int .i64 k] w fun e w'=>e= .returned (.agg (Zw (VX o.kd k s.bk s.ep)))∧Eg N w0 w' c a q Z s L:=by
 have hN:=h.low;have hO:=DA h o;obtain ⟨t0,t1,t2,t3⟩:=t;go_enter Tryz.func39,Tryz.ntmps39;go_upto_region 1 with (fail);generalize hW:(w.alloc (.cells (ZM o) 37)).alloc (.cells _ 42)=W;have eW:(w.alloc (.cells (ZM o) 37)).alloc (.cells (Zw Gg) 42)=W:=hW;rw [eW] at hO;generalize w.heap.size=b at*;have hD:Of N w0 W.drew c a q Z s L b o:=Eg.drew hO;have H1:=Za (dJ hD);have H2:=Za (Bd hD t0 t1 t2 t3);have H3:=Za (fun w=>fE o k s.bk s.ep w);have HO:=Za hO;have HD:=Za hD;have HN:=Za hN;clear hW eW t0 t1 t2 t3 h hO hD hN;refine M0 (fun w'=>Blk w' b 37 (ZM o)) 11 3 [0,1,2,3,4,6,7,8] (?_) ?_
 ·exact HD.out.op HN.out
 refine Kg ?_;show wpQuiet _ _ _ _ [_,_,_,_,_,_,_,_] _;refine Jw 37 _ b 37 (ZM o) _ rfl rfl rfl (fun w' h=>h) ZV rfl QL ?_;refine Qe ?_;refine gL ?_;refine Qc ?_;generalize W.drew=V at*;refine EE ?_;refine JZ #[.pointer (some ⟨q.e,20,none⟩)] Tryz.call53 ((H1.out).mono ?_);rintro e w2 ⟨rfl,rfl⟩;refine ⟨_,rfl,HD.out.op HN.out,?_⟩;refine hfO (i:=9) ?_;refine JG ?_;refine JZ #[.pointer (some ⟨q.e,20,none⟩)] Tryz.call54 ((H2.out).mono ?_);rintro e w2 ⟨rfl,m,rfl⟩;refine ⟨_,rfl,HD.out.op HN.out,?_⟩;refine hfO (i:=10) ?_;refine JG ?_;refine JZ #[.agg (ZM o),.int .i64 k,.int .i64 s.bk,.int .i64 s.ep] Tryz.call37 ((H3.out (V.drewN m)).mono ?_);rintro e w3 ⟨rfl,hb⟩;have h3:Of N w0 w3 c a q Z s L b o:=Eg.below (Eg.drewN HD.out m) hb;have H4:=Za h3;refine ⟨_,rfl,h3.op HN.out,?_⟩;have HZ:=Za (h3.rc HN.out);clear h3 hb H1 H2 H3 HD HO;refine Bn ?_;refine ⟨by kernel_rfl,?_⟩;refine LY ?_;go_wp2_with (first | (refine Zo rfl _ _ _ rfl (b+1) (Zw (VX o.kd k s.bk s.ep)) rfl rfl 42 _ HZ.out YS rfl (YH _) ?_));refine GM ?_;go_wp2_with fail;exact bodyPost_ret (v:= .agg (Zw (VX o.kd k s.bk s.ep))) (results_cell_row (fn:=Tryz.f39) rfl _ _ (b+1) 42 _ (0,0) _ rfl (setRow_heap _ _ _ _ _ _ HZ.out) Yb rfl YS) rfl ⟨rfl,H4.out.done HN.out _⟩
theorem DT (h:Eg N w0 w c a q Z s L)(t:Tm c s)(o:Oq)(i d:Int) :Zj Zb 123 #[.pointer (some ⟨q.e,0,none⟩),.agg (ZM o),.int .i64 i,.int .i64 d] w fun e w'=>e= .returned (.agg (Zw (Bo o.kd i d s.bk s.ep)))∧Eg N w0 w' c a q Z s L:=by
 have hN:=h.low;have hO:=DA h o;obtain ⟨t0,t1,t2,t3⟩:=t;go_enter Tryz.func123,Tryz.ntmps123;go_upto_region 1 with (fail);generalize hW:(w.alloc (.cells (ZM o) 37)).alloc (.cells _ 42)=W;have eW:(w.alloc (.cells (ZM o) 37)).alloc (.cells (Zw Gg) 42)=W:=hW;rw [eW] at hO;generalize w.heap.size=b at*;have hD:Of N w0 W.drew c a q Z s L b o:=Eg.drew hO;have H1:=Za (dJ hD);have H2:=Za (Bd hD t0 t1 t2 t3);have H3:=Za (fun w=>TX o i d s.bk s.ep w);have HO:=Za hO;have HD:=Za hD;have HN:=Za hN;clear hW eW t0 t1 t2 t3 h hO hD hN;refine M0 (fun w'=>Blk w' b 37 (ZM o)) 12 3 [0,1,2,3,4,5,7,8,9] (?_) ?_
 ·exact HD.out.op HN.out
 refine Kg ?_;refine mD ?_;refine Jw 37 _ b 37 (ZM o) _ rfl rfl rfl (fun w' h=>h) ZV rfl QL ?_;refine Qe ?_;iterate 8 (go_big_quiet_step ((intros; rfl)))
 refine Qc ?_;generalize W.drew=V at*;refine Mb ?_;refine JZ #[.pointer (some ⟨q.e,20,none⟩)] Tryz.call53 ((H1.out).mono ?_);rintro e w2 ⟨rfl,rfl⟩;refine ⟨_,rfl,HD.out.op HN.out,?_⟩;refine hfO (i:=10) ?_;refine JG ?_;refine JZ #[.pointer (some ⟨q.e,20,none⟩)] Tryz.call54 ((H2.out).mono ?_);rintro e w2 ⟨rfl,m,rfl⟩;refine ⟨_,rfl,HD.out.op HN.out,?_⟩;refine hfO (i:=11) ?_;refine JG ?_;refine JZ #[.agg (ZM o),.int .i64 i,.int .i64 d,.int .i64 s.bk,.int .i64 s.ep] Tryz.call184 ((H3.out (V.drewN m)).mono ?_);rintro e w3 ⟨rfl,hb⟩;have h3:Of N w0 w3 c a q Z s L b o:=Eg.below (Eg.drewN HD.out m) hb;have H4:=Za h3;refine ⟨_,rfl,h3.op HN.out,?_⟩;have HZ:=Za (h3.rc HN.out);clear h3 hb H1 H2 H3 HD HO;refine Bn ?_;refine ⟨by kernel_rfl,?_⟩;refine LY ?_;go_wp2_with (first | (refine Zo rfl _ _ _ rfl (b+1) (Zw (Bo o.kd i d s.bk s.ep)) rfl rfl 42 _ HZ.out YS rfl (YH _) ?_));refine GM ?_;go_wp2_with fail;exact bodyPost_ret (v:= .agg (Zw (Bo o.kd i d s.bk s.ep))) (results_cell_row (fn:=Tryz.f123) rfl _ _ (b+1) 42 _ (0,0) _ rfl (setRow_heap _ _ _ _ _ _ HZ.out) Yb rfl YS) rfl ⟨rfl,H4.out.done HN.out _⟩
end
end
section
open Go Go.RowKit Go.Deep
theorem CX {w:Zc}{e:ZN}{n k:Nat}{ia:Option Addr}{cp:Nat}{xs:List Zl}{u:Zl}(h:w.ownsRow 0 e 1 (.slice ia n cp) n xs)(hk:xs[k]?=some u) : ∃g,ia=some ⟨g,0,none⟩∧w.cell? ⟨g,k,none⟩=some u:=by
 have hl:=(Zi.1 hk).1;have h0:=h.1
 rcases h.2 with ⟨h1,h2⟩ | ⟨g,BB,cur,h1,_⟩
 ·rw [h2] at h0; omega
 ·injection h1 with h1 _ _;refine ⟨g,h1,?_⟩;subst h1;have:=h.cells rfl k u hk;rwa [add_plain,ZX] at this
theorem R9 (ev:Int) : ∀(A B:List Int) (V:List Yd),P3 ev V (A++B)=P3 ev (P3 ev V A) B
 | [],_,_=>rfl
 | i::A,B,V=>R9 ev A B _
theorem oJ {ev:Int}{V:List Yd}{I:List Int}{k:Nat}{i:Int}(hk:I[k]?=some i) :P3 ev V (I.take (k+1))=(P3 ev V (I.take k)).set i.toNat (NZ ev (Ub (P3 ev V (I.take k)) i)):=by
 rw [YR,hk,Qt,R9]; rfl
theorem Sa {ev:Int}{v:Yd}(h:Yo v) :Yo (NZ ev v):=⟨h.1,CS _ _⟩
theorem l8 {V:List Yd}{n:Nat}{u v:Yd}(hv:V[n]?=some u)(h:v.bal=u.bal) :Zz (V.set n v)=Zz V:=by rw [J3 hv,h]; omega
def Fl (V W:List Yd) :Prop:=W.length=V.length∧Zz W=Zz V∧ ∀v ∈ W,Yo v
theorem Fl.refl {V:List Yd}(h: ∀v ∈ V,Yo v) :Fl V V:=⟨rfl,rfl,h⟩
theorem Fl.set {V W:List Yd}{n:Nat}{u v:Yd}(h:Fl V W)(hv:W[n]?=some u)(hb:v.bal=u.bal)(hf:Yo v) :Fl V (W.set n v):=
 ⟨by rw [Xt,h.1],by rw [l8 hv hb,h.2.1],Gw h.2.2 hf⟩
theorem ao {ev:Int} : ∀(I:List Int) (V:List Yd),(∀v ∈ V,Yo v)→(∀i ∈ I,∃n:Nat,i=(n:Int)∧n < V.length)→Fl V (P3 ev V I)
 | [],V,h,_=>Fl.refl h
 | i::I,V,h,hI=>by
  obtain ⟨n,rfl,hn⟩:=hI i ZI;have hv:V[n]?=some (Ub V (n:Int)):=by
   unfold Ub; rw [YX,Zq,Zf hn]; rfl
  have h1:Fl V (V.set n (NZ ev (Ub V n))):=(Fl.refl h).set hv rfl (Sa (h _ (QM hv)));have h2:=ao (ev:=ev) I (V.set n (NZ ev (Ub V n))) h1.2.2 (fun j hj=>by
   obtain ⟨m,e,hm⟩:=hI j LF;exact ⟨m,e,by rw [Xt]; exact hm⟩)
  exact ⟨h2.1.trans h1.1,h2.2.1.trans h1.2.1,h2.2.2⟩
section
variable {N:Nat} {w0:DR} {w w' w1:Zc} {c:Nat→Int} {a:Pl} {q:Ql} {Z:Nat→Zc→(Nat→Prop)→Prop} {s s':Sg} {L L':List QT}
theorem iX (w:Zc)(v:Yd) :(w.alloc (.cells (Zd ZZ) 63)).setRow w.heap.size (Zd v)=w.alloc (.cells (Zd v) 63):=Zu _ _ _ _
theorem yv (h:Eg N w0 w c a q Z s L){r:Nat}(UP:11≤r)(hr:r < N){I:List Int}{v:Zl}(hx:Z r=YK 3 1 v I.length (I.map (ZR .i64))){ev:Int}(hev:(Xg .i64 ev).wf=true)
  (hI: ∀i ∈ I,∃n:Nat,i=(n:Int)∧n < s.V.length) (hf: ∀v ∈ s.V,Yo v) (ht:Zz s.V≤18446744073709551615) (hl:I.length≤100000) :
  Zj Zb 214 #[.pointer (some ⟨q.e,21,none⟩),.int .i64 ev,v] w fun e w'=>e= .returned (.tuple #[])∧Eg N w0 w' c a q Z { s with V:=P3 ev s.V I} L:=by
 have hN:=h.low;obtain ⟨ia,cp,rfl⟩:=XC (h.row UP hr hx);obtain ⟨n,hn⟩ : ∃n,I.length=n:=⟨_,rfl⟩;have HL: ∀k,Fl s.V (P3 ev s.V (I.take k)):=fun k=>ao _ _ hf fun i hi=>hI i (List.mem_of_mem_take hi)
 have HH:=Za h;have HI:=Za hI;have ni:=Za HL;have HT:=Za ht;have HX:=Za hx;have HN:=Za hn;have HNX:=Za (fun st w (hs:(Xg .i64 st).wf=true)=>bB st ev w hs hev);have HB:=Za (Zh hN (Zh UP hr));rw [hn] at hl ⊢;clear h hI hf ht hx hn HL hev hN UP hr;go_enter Tryz.func214,Tryz.ntmps214;go_wp2_with fail;go_loopw [12] (fun s12 wr=> ∃(k:Nat),k≤n∧s12= .int .i64 k∧Hid (Eg N w0 wr c a q Z { s with V:=P3 ev s.V (I.take k)} L)) (fun s12 _=>n -(intOf s12).toNat)
 case atStart=>exact ⟨0,by omega,rfl,HH⟩
 case round=>
  obtain ⟨k,hk,rfl,HE⟩:=hrel
  by_cases XP:k < n
  ·obtain ⟨i,hi⟩ : ∃i,I[k]?=some i:=⟨_,Zf Rh⟩;obtain ⟨m,rfl,hm⟩:=HI.out i (List.mem_of_getElem? hi);obtain ⟨g,rfl,hc⟩:=CX (HE.out.row HB.out.2.1 HB.out.2.2 HX.out) (show (I.map (ZR .i64))[k]?=some (.int .i64 (m:Int)) by rw [ZP,hi]; rfl);obtain ⟨W,hW⟩ : ∃W,P3 ev s.V (I.take k)=W:=⟨_,rfl⟩;have Ml:=ni.out k;have DY:=oJ (ev:=ev) (V:=s.V) hi;rw [hW] at HE Ml DY;obtain ⟨u,hu⟩ : ∃u,Ub W (m:Int)=u:=⟨_,rfl⟩;have iF:W[m]?=some u:=by
    rw [←hu]; unfold Ub; rw [YX,Zq,Zf (by rw [Ml.1]; exact hm)]; rfl
   rw [hu,YX] at DY;have cW:Yo u:=Ml.2.2 u (QM iF);have y0:wr.cell? ⟨q.e,21,none⟩=some (.pointer (some ⟨a.r,0,none⟩)):=HE.out.blk.cell 21;have HG:Hid (Zj Zb 70 #[.pointer (some ⟨a.r,0,none⟩),.int .i64 (m:Int)] wr fun e w'=>e= .returned (.tuple #[.agg (Zd u),.bool true])∧Zs wr.heap.size wr w'):=Za (by
    obtain ⟨X,hX,Uf,hh,_⟩:=HE.out.open;exact hh.get_in Uf iF)
   have HU:=Za (Zh iF (Zh cW (Zh Ml DY)));have HNu:=Za (fun w=>HNX.out u.st w cW.2);clear hi hm hW Ml DY hu iF cW;go_wp2_with fail;refine HG.out.mono ?_;rintro e w2 ⟨rfl,hb⟩;have E2:=HE.out.below hb;have E3:=Za (E2.box (Zd u) 63);have y1:(w2.alloc (.cells (Zd u) 63)).cell? ⟨w2.heap.size,1,none⟩=some (.int .i64 u.st):=(Zv w2 63 (Zd u)).cell 1;have z1:(w2.alloc (.cells (Zd u) 63)).frozen? ⟨w2.heap.size,1,none⟩=false:=(Zv w2 63 (Zd u)).frozen 1;clear hb E2 HG HE;go_wp2_with (first | (refine Zo rfl _ _ _ rfl w2.heap.size (Zd u) rfl rfl 63 _ (ZG w2 _) Ym rfl (Yx _) ?_; rw [Zu]));refine (HNu.out _).mono ?_;rintro e w3 ⟨rfl,hb⟩;have E4:=E3.out.below hb;have y2:w3.cell? ⟨w2.heap.size,1,none⟩=some (.int .i64 u.st):=(hb.cell (p:=⟨w2.heap.size,1,none⟩) ZI).trans y1;have z2:w3.frozen? ⟨w2.heap.size,1,none⟩=false:=(Blk.below (Zv w2 63 (Zd u)) hb ZI).frozen 1;have E5:=E4.setc (r:=N) HB.out.1 Ze xput_same 1 (.int .i64 (JC u.st ev));rw [show (Zd u).setIfInBounds 1 (.int .i64 (JC u.st ev))=Zd (NZ ev u) from rfl,Xk] at E5;generalize w2.heap.size=zb at*;have hB5:=E5.blkAt (r:=N) HB.out.1 Ze xput_same;have y3:(w3.setCell ⟨zb,1,none⟩ (.int .i64 (JC u.st ev))).cell? ⟨q.e,21,none⟩=some (.pointer (some ⟨a.r,0,none⟩)):=E5.blk.cell 21;have H5:=Za E5;have xX:=Za hB5;clear hb E3 E4 E5 hB5 y1 z1 HNu;go_wp2_with fail;clear y2 z2;generalize w3.setCell ⟨zb,1,none⟩ (.int .i64 (JC u.st ev))=W5 at*;refine wqT 6 ?_;refine BA ?_;refine TJ ?_;refine Jw 63 _ zb 63 (Zd (NZ ev u)) _ rfl rfl rfl (fun w' h=>by obtain ⟨m,rfl⟩:=h; exact xX.out) Tryz.underlying63 rfl Ym ?_;refine Qe ?_;refine Qc ?_;intro _ JB;obtain ⟨nr,Xh⟩:=JB;subst Xh;obtain ⟨X,hX,Uf,hh,hK,_⟩:=H5.out.open;have hS:=(hh.drewN hX nr).set hX Uf (v':=NZ ev u) HU.out.1 (Sa HU.out.2.1) (by
    show Zz W - u.bal+u.bal≤_;have h1:=HU.out.2.2.1.2.1;have h2:=HT.out;omega)
   have HS:=Za hS;have HK:=Za hK;clear hX Uf hh hK hS H5 xX;go_wp2_with fail;refine HS.out.mono ?_;rintro e w6 ⟨rfl,h6⟩;have h7:=(HK.out _ _ _ h6 rfl rfl).drop HB.out.1;have H7:Hid (Eg N w0 w6 c a q Z { s with V:=P3 ev s.V (I.take (k+1))} L):=Za (by rw [HU.out.2.2.2]; exact h7);clear h6 h7 HS HK HU y0 y3;go_wp2_with fail;go_roundw
   case rel=>exact ⟨k+1,by omega,by go_num,H7⟩
   case measure=>exact Bl
  ·obtain rfl:k=n:=by omega
   clear XP;have XP: ¬k < k:=by omega
   have H7:Hid (Eg N w0 wr c a q Z { s with V:=P3 ev s.V I} L):=Za (by
    have:=HE.out;rwa [Yv (by rw [HN.out]; exact Zg _)] at this)
   exact jx
end
end
section
open Go Go.RowKit Go.Deep
def Lv (i:Nat) :Zl:= .int .i64 (i:Int)
section
variable {N:Nat} {w0:DR} {w w' w1:Zc} {c:Nat→Int} {a:Pl} {q:Ql} {Z:Nat→Zc→(Nat→Prop)→Prop} {s s':Sg} {L L':List QT}
theorem yx (h:Eg N w0 w c a q Z s L){st:Int}(Um:(Xg .i64 st).wf=true)(hl:s.V.length≤100000) :
  Zj Zb 255 #[.pointer (some ⟨q.e,21,none⟩),.int .i64 st] w fun e w'=> ∃v,e= .returned v∧Eg (N+1) w0 w' c a q (ZD Z N (YK 3 1 v (Lx s.V st s.V.length).length ((Lx s.V st s.V.length).map Lv))) s L∧w.heap.size≤w'.heap.size:=by
 have hN:=h.low;obtain ⟨i0,MD,BM,BG,Mn⟩:=LK;have H0:=Za (h.nil 3 1);obtain ⟨n,hn⟩ : ∃n,s.V.length=n:=⟨_,rfl⟩;obtain ⟨ct,hct⟩ : ∃ct:Nat,(Lx s.V st n).length=ct:=⟨_,rfl⟩;have pg:Xj s.V st=(ct:Int):=by rw [←hct,←hn]; exact (xz s.V st).symm
 have HW:=Za (Zh hn (Zh hct pg));have HN:=Za hN;have HS:=Za Um;rw [hn] at hl ⊢;rw [hct];clear h Um hn hct pg hN;go_enter Tryz.func255,Tryz.ntmps255;go_wp2_with fail;go_loopw [5,6] (fun s5 s6 wr=> ∃(k qn:Nat) (a1:Option Addr) (c1:Nat),k≤n∧qn≤k∧qn≤ct∧s5= .slice a1 qn c1∧s6= .int .i64 k∧Hid ((Lx s.V st k).length=qn∧Eg (N+1) w0 wr c a q (ZD Z N (YK 3 1 (.slice a1 qn c1) qn ((Lx s.V st k).map Lv))) s L)∧Hid (w.heap.size≤wr.heap.size)) (fun _ s6 _=>n -(intOf s6).toNat)
 case atStart=>exact ⟨0,0,none,0,by omega,by omega,by omega,rfl,rfl,Za ⟨rfl,H0.out⟩,Za (Zg _)⟩
 case round=>
  obtain ⟨k,qn,a1,c1,hk,hqk,hqc,rfl,rfl,HE,HZ⟩:=hrel;have y0:wr.cell? ⟨q.e,21,none⟩=some (.pointer (some ⟨a.r,0,none⟩)):=HE.out.2.blk.cell 21;have HC:Hid (Zj Zb 287 #[.pointer (some ⟨a.r,0,none⟩),.int .i64 st] wr fun e w'=>e= .returned (.int .i64 (ct:Int))∧wr=w'):=Za (by
   obtain ⟨X,hX,Uf,hh,_⟩:=HE.out.2.open;have:=hh.count Uf HS.out;rw [HW.out.2.2] at this;exact this)
  by_cases hq:qn < ct
  ·have DX:k < n:=by
    rcases Ys k n with h | h
    ·exact h
    ·have h1:=HE.out.1;rw [show k=n by omega,HW.out.2.1] at h1;omega
   obtain ⟨u,hu⟩ : ∃u,s.V.getD k ZZ=u:=⟨_,rfl⟩;have iF:s.V[k]?=some u:=by
    rw [←hu,Zq,Zf (by rw [HW.out.1]; exact DX)]; rfl
   have HG:Hid (Zj Zb 70 #[.pointer (some ⟨a.r,0,none⟩),.int .i64 (k:Int)] wr fun e w'=>e= .returned (.tuple #[.agg (Zd u),.bool true])∧Zs wr.heap.size wr w'):=Za (by
    obtain ⟨X,hX,Uf,hh,_⟩:=HE.out.2.open;exact hh.get_in Uf iF)
   have DY:=Ty s.V st k;rw [hu] at DY;have jI:=Za DY;clear hu iF DY;go_wp2_with fail;refine HC.out.mono ?_;rintro e w2 ⟨rfl,rfl⟩;go_wp2_with fail;refine HG.out.mono ?_;rintro e w2 ⟨rfl,hb⟩;have GJ:Zs wr.heap.size wr (w2.alloc (.cells (Zd u) 63)):=hb.alloc hb.size _;have E3:=Za (HE.out.2.below GJ);have L3:=Za (Zh HE.out.1 (Z9 HZ.out GJ.size));have y1:(w2.alloc (.cells (Zd u) 63)).cell? ⟨w2.heap.size,1,none⟩=some (.int .i64 u.st):=(Zv w2 63 (Zd u)).cell 1;clear hb GJ HG HE HC y0 HZ
   by_cases hs:u.st=st
   ·have d:(u.st==st)=true:=by simp [hs]
    rw [if_pos hs] at jI;rw [hs] at y1 d;clear hs;go_wp2_with (first | (refine Zo rfl _ _ _ rfl w2.heap.size (Zd u) rfl rfl 63 _ (ZG w2 _) Ym rfl (Yx _) ?_; rw [Zu]) | (at_builtin; refine Eg.grow E3.out HN.out (Nat.lt_succ_self N) xput_same rfl _ _ 47 rfl i0 (.int .i64 0) 8 Tryz.underlying47 MD BM BG Mn rfl YU rfl 1 #[.int .i64 (k:Int)] 3 _ ZI rfl rfl ?c1 ?c2 ?c3 ?_))
    case c1=>first | rfl | (intro u hu; simp at hu; subst hu; rfl)
    case c2=>unfold Jp; omega
    case c3=>omega
    intro v' w4 E4 hle;obtain ⟨a2,c2,rfl⟩:=XC (E4.row HN.out (Nat.lt_succ_self N) xput_same);rw [Xk] at E4;have H4:Hid ((Lx s.V st (k+1)).length=qn+1∧Eg (N+1) w0 w4 c a q (ZD Z N (YK 3 1 (.slice a2 (qn+1) c2) (qn+1) ((Lx s.V st (k+1)).map Lv))) s L):=Za ⟨by rw [jI.out,ZE,L3.out.1]; rfl,by rw [jI.out,XS]; exact E4⟩;have HL4:Hid (w.heap.size≤w4.heap.size):=Za (Z9 L3.out.2 (by simpa using hle));clear E4 hle E3 L3 jI y1 d;go_wp2_with fail;go_roundw
    case rel=>exact ⟨k+1,qn+1,a2,c2,by omega,by omega,by omega,rfl,by go_num,H4,HL4⟩
    case measure=>exact Bl
   ·have d:(u.st==st)=false:=by simp [hs]
    rw [if_neg hs] at jI;clear hs;have H4:Hid ((Lx s.V st (k+1)).length=qn∧Eg (N+1) w0 (w2.alloc (.cells (Zd u) 63)) c a q (ZD Z N (YK 3 1 (.slice a1 qn c1) qn ((Lx s.V st (k+1)).map Lv))) s L):=Za ⟨by rw [jI.out,L3.out.1],by rw [jI.out]; exact E3.out⟩;have HL4:Hid (w.heap.size≤(w2.alloc (.cells (Zd u) 63)).heap.size):=Za L3.out.2;clear E3 L3 jI;go_wp2_with (first | (refine Zo rfl _ _ _ rfl w2.heap.size (Zd u) rfl rfl 63 _ (ZG w2 _) Ym rfl (Yx _) ?_; rw [Zu]));go_roundw
    case rel=>exact ⟨k+1,qn,a1,c1,by omega,by omega,by omega,rfl,by go_num,H4,HL4⟩
    case measure=>exact Bl
  ·obtain rfl:qn=ct:=by omega
   have H4:Hid (Eg (N+1) w0 wr c a q (ZD Z N (YK 3 1 (.slice a1 qn c1) qn ((Lx s.V st n).map Lv))) s L):=Za (by
    have h1:=rC (V:=s.V) (st:=st) (n:=k) (by rw [HW.out.1]; exact hk) (by rw [HW.out.1,HW.out.2.1,HE.out.1]);rw [HW.out.1] at h1;rw [←h1];exact HE.out.2)
   clear HE;go_wp2_with fail;refine HC.out.mono ?_;rintro e w2 ⟨rfl,rfl⟩;go_wp2_with fail;go_ret;exact ⟨_,rfl,H4.out,HZ.out⟩
end
end
section
open Go Go.RowKit Go.Deep
def Ey (x:Int) :Zl:= .int .u64 x
theorem nL {V:List Yd}{k:Nat}{u:Yd}(h:V[k]?=some u) :((Jz V).map Ey)[k]?=some (.int .u64 u.bal):=by
 unfold Jz; rw [List.map_map,ZP,h]; rfl
theorem EL (V:List Yd) :((Jz V).map Ey).length=V.length:=by simp [Jz]
section
variable {N:Nat} {w0:DR} {w w' w1:Zc} {c:Nat→Int} {a:Pl} {q:Ql} {Z:Nat→Zc→(Nat→Prop)→Prop} {s s':Sg} {L L':List QT}
theorem yr (h:Eg N w0 w c a q Z s L)(hl:s.V.length≤100000) :
  Zj Zb 212 #[.pointer (some ⟨q.e,21,none⟩)] w fun e w'=> ∃v,e= .returned v∧Eg (N+1) w0 w' c a q (ZD Z N (YK 22 1 v s.V.length ((Jz s.V).map Ey))) s L∧w.heap.size≤w'.heap.size:=by
 have hN:=h.low;have y0:w.cell? ⟨q.e,21,none⟩=some (.pointer (some ⟨a.r,0,none⟩)):=h.blk.cell 21;obtain ⟨n,hn⟩ : ∃n,s.V.length=n:=⟨_,rfl⟩;have Dw:=Fb n Ze w;have H0:Hid (Eg (N+1) w0 (w.alloc (.cells (Ue (Zy n 0)) 22)) c a q (ZD Z N (YW w.heap.size 22 (Kr ((Jz s.V).map Ey) (.int .u64 0) 0).toArray)) s L):=Za (by
  have:=h.box (Ue (Zy n 0)) 22;rw [show (Kr ((Jz s.V).map Ey) (.int .u64 0) 0).toArray=Ue (Zy n 0) by rw [MA,EL,hn]; simp [Ue]];exact this)
 have HG:Hid (Zj Zb 119 #[.pointer (some ⟨a.r,0,none⟩)] w fun e w'=>e= .returned (.int .i64 (n:Int))∧w=w'):=Za (by
  obtain ⟨X,hX,Uf,hh,_⟩:=h.open;have:=hh.len Uf;rwa [hn] at this)
 have HN:=Za hN;have HV:=Za hn;have ye:Hid (w.heap.size≤(w.alloc (.cells (Ue (Zy n 0)) 22)).heap.size):=Za ZI;rw [hn] at hl ⊢;clear h hn hN;go_enter Tryz.func212,Tryz.ntmps212;go_wp2_with fail;refine HG.out.mono ?_;rintro e w2 ⟨rfl,rfl⟩;clear HG;go_wp2_with fail;clear Dw;generalize hz:w.heap.size=z at*;have HZZ:=Za hz;clear hz;generalize w.alloc (.cells (Ue (Zy n 0)) 22)=W at*;clear y0;go_loopw [15] (fun s15 wr=> ∃(k:Nat),k≤n∧s15= .int .i64 k∧Hid (Eg (N+1) w0 wr c a q (ZD Z N (YW z 22 (Kr ((Jz s.V).map Ey) (.int .u64 0) k).toArray)) s L)∧Hid (z≤wr.heap.size)) (fun s15 _=>n -(intOf s15).toNat)
 case atStart=>exact ⟨0,by omega,rfl,H0,ye⟩
 case round=>
  obtain ⟨k,hk,rfl,HE,HZ⟩:=hrel
  by_cases XP:k < n
  ·obtain ⟨u,hu⟩ : ∃u,s.V[k]?=some u:=⟨_,Zf (by rw [HV.out]; exact XP)⟩;have y0:wr.cell? ⟨q.e,21,none⟩=some (.pointer (some ⟨a.r,0,none⟩)):=HE.out.blk.cell 21;have HG:Hid (Zj Zb 70 #[.pointer (some ⟨a.r,0,none⟩),.int .i64 (k:Int)] wr fun e w'=>e= .returned (.tuple #[.agg (Zd u),.bool true])∧Zs wr.heap.size wr w'):=Za (by
    obtain ⟨X,hX,Uf,hh,_⟩:=HE.out.open;exact hh.get_in Uf hu)
   have HS:Hid (((Kr ((Jz s.V).map Ey) (.int .u64 0) k).toArray.setIfInBounds k (.int .u64 u.bal))=(Kr ((Jz s.V).map Ey) (.int .u64 0) (k+1)).toArray∧(Kr ((Jz s.V).map Ey) (.int .u64 0) k).length=n):=Za ⟨by
    rw [List.setIfInBounds_toArray,kH (nL hu)],by rw [Oh (by rw [EL,HV.out]; exact hk),EL,HV.out]⟩
   clear hu;go_wp2_with fail;refine HG.out.mono ?_;rintro e w2 ⟨rfl,hb⟩;have GJ:Zs wr.heap.size wr (w2.alloc (.cells (Zd u) 63)):=hb.alloc hb.size _;have E3:=HE.out.below GJ;have y1:(w2.alloc (.cells (Zd u) 63)).cell? ⟨w2.heap.size,0,none⟩=some (.int .u64 u.bal):=(Zv w2 63 (Zd u)).cell 0;have hB:=E3.blkAt (r:=N) HN.out Ze xput_same;obtain ⟨uu,hc⟩ : ∃uu,(w2.alloc (.cells (Zd u) 63)).cell? ⟨z,k,none⟩=some uu:=⟨_,(hB.cell k).trans (by rw [YL,Zf (by rw [HS.out.2]; exact XP)])⟩;have hfz:(w2.alloc (.cells (Zd u) 63)).frozen? ⟨z,k,none⟩=false:=hB.frozen k;have H4:Hid (Eg (N+1) w0 ((w2.alloc (.cells (Zd u) 63)).setCell ⟨z,k,none⟩ (.int .u64 u.bal)) c a q (ZD Z N (YW z 22 (Kr ((Jz s.V).map Ey) (.int .u64 0) (k+1)).toArray)) s L):=Za (by
    have h4:=E3.setc (r:=N) HN.out Ze xput_same k (.int .u64 u.bal);rwa [HS.out.1,Xk] at h4)
   have HZ4:Hid (z≤((w2.alloc (.cells (Zd u) 63)).setCell ⟨z,k,none⟩ (.int .u64 u.bal)).heap.size):=Za (by have:=HZ.out; have:=GJ.size; simp at this ⊢; omega);clear hb GJ E3 hB HS HG HE y0;go_wp2_with (first | (refine Zo rfl _ _ _ rfl w2.heap.size (Zd u) rfl rfl 63 _ (ZG w2 _) Ym rfl (Yx _) ?_; rw [Zu]));exact zn
  ·obtain rfl:k=n:=by omega
   clear XP;have XP: ¬k < k:=by omega
   have H7:Hid (Eg (N+1) w0 wr c a q (ZD Z N (YK 22 1 (.slice (some ⟨z,0,none⟩) k k) k ((Jz s.V).map Ey))) s L):=Za (by
    have h1:=HE.out;rw [show k=((Jz s.V).map Ey).length by rw [EL,HV.out],Og] at h1;have h2:=h1.torow (r:=N) (k:=1) (n:=k) HN.out Ze xput_same (by rw [EL,HV.out,Nat.mul_one]) UH;rwa [Xk] at h2)
   exact rQ
end
end
end Go.Proofs.YtianiiijaopdpaaGreat
