/- Part 5 of 31: L09Cyc L09Cur L09Idx L10Num L14Bat L13Row M6 L02Clock L04OpsDuo L04CopyDuo L04GrowDuo L04PushDuo L04OpsReq L04CopyReq L04GrowReq L04PushReq L04AllDuo L04AllReq Long. -/
import Derived.Test.YtobgbcdgffgdhaaGreatZw00
import Derived.Test.YtobgbcdgffgdhaaGreatZw04
namespace Go.Proofs.YtobgbcdgffgdhaaGreat
set_option linter.unusedVariables false
set_option linter.unusedSimpArgs false
set_option maxRecDepth 100000
set_option maxHeartbeats 8000000
open _root_.Array renaming all_eq_true_iff_forall_mem -> ZK, any_eq_true' -> Gc
open _root_.Go.RowKit renaming Below -> Zp
open _root_.Go.Proofs.YtobgbcdgffgdhaaGreat.Zu renaming kept -> QG, ne_ -> Js, new -> Zt, set_ -> Va
open _root_.Bool renaming and_eq_true -> YO
open _root_.Go renaming Calls -> Zv, Value -> Zk, World -> Zc
open _root_.Int renaming ediv_le_self -> JG, ediv_nonneg -> J1
open _root_.Go.Proofs.YtobgbcdgffgdhaaGreat.Zx renaming refl -> ZM
open _root_.List renaming all_eq_true -> Xh, append_nil -> XM, eq_nil_of_length_eq_zero -> ZR, length_cons -> Yc, mem_of_mem_drop -> Xc, mem_of_mem_take -> ZQ, mem_singleton -> Yk, replicate -> ZP
open _root_.Nat renaming div_add_mod -> KD, eq_of_beq_eq_true -> VN, eq_zero_or_pos -> QK, le_refl -> Zh, lt_of_lt_of_le -> YE, zero_mul -> Jw
open _root_.Ne renaming symm -> Q0
open _root_.Option.some renaming inj -> ZL
open _root_.Go.Region renaming binds -> Xd, lexTailB -> VF, noSelect -> X3, ready -> Yq, seqB -> JT
open _root_.Go.Proofs.YtobgbcdgffgdhaaGreat.Yv renaming kept -> Gn
open _root_.Go.Proofs.Tryz renaming prog -> Zb
open _root_.Go.Value renaming cells -> Yi, slice -> Yj
open Go.Proofs.Tryz
theorem Wl {G:Prop}(h:G:=by rw [MG]; omega) :G:=h
theorem Ch {G:Prop} (h:G:=by
  go_ret;exact ⟨rfl,_,rfl⟩) :G:=h
theorem zT2 {G:Prop} (h:G:=by
  go_enter func133,ntmps133;go_wp2_with fail;refine (HF.o _ (Za rfl)).mono ?_;rintro e w' ⟨rfl,q,rfl⟩;go_wp2_with fail;refine (KEY.o q).mono ?_;rintro e w1 ⟨rfl,g,n,f,C,hr,hw,hn,CR,hk⟩;obtain ⟨-,d1,d2,d3,-,-,qx⟩:=hr.cells;have bI: ¬ad.block=g:=uC
  have oE:=Za bI;obtain ⟨L,CM,hLo,hLc,qM⟩ : ∃L:List Value,L.length=m*2/\(∀v ∈ L,v.oneCell'=true)/\(∀j v,L[j]?=some v->w1.cell? (ad.add j)=some v)/\cs.take (m*2)=L:=uD
  obtain ⟨B1,B2,hC,Wu,SP,OW,-⟩:=hr;have DO:=Za B1;have Gv:=Za B2;have HC:=Za hC;have HW:=Za hw;have vx:=Za CR;have HK:=Za hk;have oH:=Za CM;have vw:=Za hLo;have zE:=Za hLc;have HLe:=Za qM;clear B1 B2 hC hw CR hk CM hLo hLc qM bI;obtain ⟨s,hsv⟩ : ∃s:Nat,(f+c)%n=s:=⟨_,rfl⟩;have DU:s < n:=lh
  have Vr: ∀W:World,W.cell? ⟨b,1,none⟩=some (.slice (some ⟨g,0,none⟩) n n)->W.cell? ⟨b,2,none⟩=some (.int .i64 f)->Xb 191 #[.pointer (some ⟨b,0,none⟩),.int .i64 c] W (.int .i64 s):=fun W x1 x2=>by
   have:=Ll b n f c _ n W x1 x2 Zf Zf Zf;rwa [hsv] at this
  have R0:=Za Vr;have zK:=Za hsv;obtain ⟨u,hu,hu0,hu1,hu2⟩ : ∃u:Nat,u=min m (n - s)/\u<=m/\u<=n - s/\(u=m\/u=n - s):=⟨_,rfl,by omega,by omega,by omega⟩;have HU:=Za hu;have HU2:=Za hu2;clear Vr hsv hu hu2;go_wp2;refine GL 14 ?_;refine GM ?_
  repeat (go_big_quiet_step ((go_at_call 191; exact Calls.quiet_of (R0.o _ d1 d2))))
  refine XK ?_;intro _ Jq;obtain ⟨nr,Y9⟩:=Jq;subst Y9;refine Y1 rfl (.tmp 32) (.tmp 35) _ _ rfl 116 underlying25 2 Zf HT.o _ _ _ _ _ _ rfl rfl g (s*2) C 116 Gv.o (L.take (u*2)) u ja Pk
   (fun _=>⟨rfl,_,rfl,fun j v hv=>zE.o j v (Mf hv)⟩) iY (fun v hv=>vw.o v (List.mem_of_mem_take hv)) ?_
  intro W1 HD1 K1 S1;have RN: ¬b=g:=Zu.ne_ DO.o Gv.o YW;have x1:=K1.cell (p:=⟨b,1,none⟩) RN (by simpa using d1);have bG: ∀j v,L[j]?=some v->W1.cell? (ad.add j)=some v:=fun j v hv=>K1.cell jd (zE.o j v hv)
  have Et:Zl (Zu W1 b 151 #[.int .i64 size,.slice (some ⟨g,0,none⟩) n n,.int .i64 f,.int .i64 c]):=Za (Zu.kept (w:=w1.drewN nr) DO.o K1 RN);have oU:=Za bG;have Nh:=Za K1;clear S1 K1 bG d1 d2 d3 qx;go_wp2;refine GL 8 ?_;refine GM ?_
  repeat (go_big_quiet_step (fail))
  refine XK ?_;intro _ Jq;obtain ⟨ns,Y9⟩:=Jq;subst Y9;refine Y1 rfl (.tmp 40) (.tmp 44) _ _ rfl 116 underlying25 2 Zf HT.o _ _ _ _ _ _ rfl rfl g 0 _ 116 HD1.o (L.drop (u*2)) (m - u) je Pk
   (fun h0=>⟨rfl,ad.add (u*2),by first | rfl | exact if_neg jb,fun j v hv=>by rw [Sb]; exact oU.o _ v jc⟩) iU (fun v hv=>vw.o v (List.mem_of_mem_drop hv)) ?_
  intro W2 HD2 K2 S2;have Ar:Zl (Zu W2 b 151 #[.int .i64 size,.slice (some ⟨g,0,none⟩) n n,.int .i64 f,.int .i64 c]):=Za (Zu.kept (w:=W1.drewN ns) Et.o K2 RN);have y3:=Ar.o.cell 3;have z3:=Ar.o.frozen 3;have Vx: ∃go',Yv 151 116 2 (W2.setCell ⟨b,3,none⟩ (.int .i64 ((c:Int)+(m:Int)))) b go' size (c+m) (F++L)/\UI w go go'/\Zx (QU b go) w (W2.setCell ⟨b,3,none⟩ (.int .i64 ((c:Int)+(m:Int)))):=uA
  exact uF) :G:=h
theorem zT3 {G:Prop} (h:G:=by
  go_enter func135,ntmps135;go_wp2_with fail;refine (HF.o _ (Za rfl)).mono ?_;rintro e w' ⟨rfl,q,rfl⟩;go_wp2_with fail;refine (KEY.o q).mono ?_;rintro e w1 ⟨rfl,g,n,f,C,hr,hw,hn,CR,hk⟩;obtain ⟨-,d1,d2,d3,-,-,qx⟩:=hr.cells;have bI: ¬ad.block=g:=uC
  have oE:=Za bI;obtain ⟨L,CM,hLo,hLc,qM⟩ : ∃L:List Value,L.length=m*2/\(∀v ∈ L,v.oneCell'=true)/\(∀j v,L[j]?=some v->w1.cell? (ad.add j)=some v)/\cs.take (m*2)=L:=uD
  obtain ⟨B1,B2,hC,Wu,SP,OW,-⟩:=hr;have DO:=Za B1;have Gv:=Za B2;have HC:=Za hC;have HW:=Za hw;have vx:=Za CR;have HK:=Za hk;have oH:=Za CM;have vw:=Za hLo;have zE:=Za hLc;have HLe:=Za qM;clear B1 B2 hC hw CR hk CM hLo hLc qM bI;obtain ⟨s,hsv⟩ : ∃s:Nat,(f+c)%n=s:=⟨_,rfl⟩;have DU:s < n:=lh
  have Vr: ∀W:World,W.cell? ⟨b,1,none⟩=some (.slice (some ⟨g,0,none⟩) n n)->W.cell? ⟨b,2,none⟩=some (.int .i64 f)->Xb 196 #[.pointer (some ⟨b,0,none⟩),.int .i64 c] W (.int .i64 s):=fun W x1 x2=>by
   have:=Lx b n f c _ n W x1 x2 Zf Zf Zf;rwa [hsv] at this
  have R0:=Za Vr;have zK:=Za hsv;obtain ⟨u,hu,hu0,hu1,hu2⟩ : ∃u:Nat,u=min m (n - s)/\u<=m/\u<=n - s/\(u=m\/u=n - s):=⟨_,rfl,by omega,by omega,by omega⟩;have HU:=Za hu;have HU2:=Za hu2;clear Vr hsv hu hu2;go_wp2;refine GL 14 ?_;refine GM ?_
  repeat (go_big_quiet_step ((go_at_call 196; exact Calls.quiet_of (R0.o _ d1 d2))))
  refine XK ?_;intro _ Jq;obtain ⟨nr,Y9⟩:=Jq;subst Y9;refine Y1 rfl (.tmp 32) (.tmp 35) _ _ rfl 119 underlying26 2 Zf HT.o _ _ _ _ _ _ rfl rfl g (s*2) C 119 Gv.o (L.take (u*2)) u ja Pk
   (fun _=>⟨rfl,_,rfl,fun j v hv=>zE.o j v (Mf hv)⟩) iY (fun v hv=>vw.o v (List.mem_of_mem_take hv)) ?_
  intro W1 HD1 K1 S1;have RN: ¬b=g:=Zu.ne_ DO.o Gv.o YW;have x1:=K1.cell (p:=⟨b,1,none⟩) RN (by simpa using d1);have bG: ∀j v,L[j]?=some v->W1.cell? (ad.add j)=some v:=fun j v hv=>K1.cell jd (zE.o j v hv)
  have Et:Zl (Zu W1 b 154 #[.int .i64 size,.slice (some ⟨g,0,none⟩) n n,.int .i64 f,.int .i64 c]):=Za (Zu.kept (w:=w1.drewN nr) DO.o K1 RN);have oU:=Za bG;have Nh:=Za K1;clear S1 K1 bG d1 d2 d3 qx;go_wp2;refine GL 8 ?_;refine GM ?_
  repeat (go_big_quiet_step (fail))
  refine XK ?_;intro _ Jq;obtain ⟨ns,Y9⟩:=Jq;subst Y9;refine Y1 rfl (.tmp 40) (.tmp 44) _ _ rfl 119 underlying26 2 Zf HT.o _ _ _ _ _ _ rfl rfl g 0 _ 119 HD1.o (L.drop (u*2)) (m - u) je Pk
   (fun h0=>⟨rfl,ad.add (u*2),by first | rfl | exact if_neg jb,fun j v hv=>by rw [Sb]; exact oU.o _ v jc⟩) iU (fun v hv=>vw.o v (List.mem_of_mem_drop hv)) ?_
  intro W2 HD2 K2 S2;have Ar:Zl (Zu W2 b 154 #[.int .i64 size,.slice (some ⟨g,0,none⟩) n n,.int .i64 f,.int .i64 c]):=Za (Zu.kept (w:=W1.drewN ns) Et.o K2 RN);have y3:=Ar.o.cell 3;have z3:=Ar.o.frozen 3;have Vx: ∃go',Yv 154 119 2 (W2.setCell ⟨b,3,none⟩ (.int .i64 ((c:Int)+(m:Int)))) b go' size (c+m) (F++L)/\UI w go go'/\Zx (QU b go) w (W2.setCell ⟨b,3,none⟩ (.int .i64 ((c:Int)+(m:Int)))):=uA
  exact uF) :G:=h
theorem Zhx {G:Prop} (h:G:=by
  have d1:=ej.o.cell 1;have d2:=ej.o.cell 2;have e1:=ej.o.frozen 1;have e2:=ej.o.frozen 2;clear Et bF At WE;go_wp2;go_end0;have hlen:(F++D.drop F.length).length=n'*2:=ZbR
  exact ZbD) :G:=h
theorem Zhy {G:Prop} (h:G:=by
  intro W2 HD2 K2 S2;have Oo:=Za S2;have Pz:=Za K2;clear S2 K2;have Vx:Zu W2 h 116 (F++D.drop F.length).toArray/\Zx (fun i=>i=h) w W2/\W2.heap.size=w.heap.size:=uB
  exact uG) :G:=h
theorem Zhz {G:Prop} (h:G:=by
  intro W2 HD2 K2 S2;have Oo:=Za S2;have Pz:=Za K2;clear S2 K2;have Vx:Zu W2 h 119 (F++D.drop F.length).toArray/\Zx (fun i=>i=h) w W2/\W2.heap.size=w.heap.size:=uB
  exact uG) :G:=h
theorem Zh0 {G:Prop} (h:G:=by
  clear h0 h1 h2 h3;generalize VG a d=q at*;go_enter func305,ntmps305;go_wp2_with fail;refine (H.o _).mono ?_;rintro e w' ⟨rfl,rfl⟩;go_wp2;go_ret2;exact ⟨rfl,rfl⟩) :G:=h
theorem Zh6 {G:Prop} (h:G:=by
  clear hd;go_enter func133,ntmps133;exact uE) :G:=h
theorem Zh7 {G:Prop} (h:G:=by
  clear hd;go_enter func135,ntmps135;exact uE) :G:=h
theorem Ziu {G:Prop} (h:G:=by
  have:=Nat.mul_le_mul_left n (Nat.succ_le_of_lt hc);rw [Nat.succ_eq_add_one,Nat.mul_add,Nat.mul_one] at this;omega) :G:=h
theorem Ziv {G:Prop} (h:G:=by
  have HF:=Za hf;clear hf;go_enter func306,ntmps306;go_wp2;go_ret2;exact ⟨by rw [HF.o]; rfl,rfl⟩) :G:=h
theorem Zez {G:Prop} (h:G:=by
  have HF:=Za hf;clear hf;go_enter func200,ntmps200;go_wp2;go_ret;exact ⟨by rw [HF.o]; rfl,rfl⟩) :G:=h
theorem Zbb {G:Prop} (h:G:=by
  rw [YP hln] at GQ;exact h.ap j l Zf Zf EE i hi GQ) :G:=h
theorem Zbe {G:Prop} (h:G:=by
  simp only [Bool.and_eq_true] at this;exact ⟨this.1,by simpa using this.2⟩) :G:=h
theorem Wn {G:Prop} (h:G:=by
  rw [hi] at h;simp at h;exact ⟨i,rfl,h.1,h.2.1,h.2.2⟩) :G:=h
theorem ld {G:Prop} (h:G:=by
  go_wp2;exact Ch) :G:=h
theorem Re {G:Prop} (h:G:=by
  rw [hi] at h
  cases h) :G:=h
section
def JM (L:List Bool)(s:Nat) :Nat->List Nat
 | 0=> []
 | k+1=>if L.getD ((s+k)%L.length) false=true then JM L s k++[(s+k)%L.length] else JM L s k
def Kx (L:List Bool)(s k:Nat) :List Int:=(JM L s k).map fun i:Nat=>(i:Int)
def DJ (n s k:Nat) :Nat:=if k=0 then s else(s+k)%n
def Nj (L:List Bool)(s:Nat)(v p:Int)(m:Nat) :Prop:=
 (v<=(m:Int)\/L.length<=m\/p<=((JM L s m).length:Int))/\ ∀j,j < m->(j:Int)< v/\j < L.length/\((JM L s j).length:Int)< p
section
variable {L:List Bool} {s m m' k:Nat} {v p:Int}
theorem Nj.unique (h:Nj L s v p m)(h':Nj L s v p m') :m=m':=by
 obtain ⟨h1,h2⟩:=h;obtain ⟨g1,g2⟩:=h'
 rcases Nat.lt_trichotomy m m' with h | h | h
 ·have:=g2 m h; omega
 ·exact h
 ·have:=h2 m' h; omega
theorem Nj.le (h:Nj L s v p m) :m<=L.length:=by
 rcases QK m with h0 | h0
 ·omega
 ·have:=h.2 (m - 1) Zf; omega
theorem Nj.le_v (h:Nj L s v p m) :m=0\/(m:Int)<=v:=by
 rcases QK m with h0 | h0
 ·exact .inl h0
 ·have:=h.2 (m - 1) Zf; omega
theorem nb (h:L.getD ((s+k)%L.length) false=true) :JM L s (k+1)=JM L s k++[(s+k)%L.length]:=by rw [JM,if_pos h]
theorem gK (h:L.getD ((s+k)%L.length) false=false) :JM L s (k+1)=JM L s k:=by rw [JM,if_neg (by rw [h]; simp)]
theorem nc (L:List Bool)(s k:Nat) :(JM L s k).length<=k:=by
 induction k with
 | zero=>simp [JM]
 | succ k ih=>
  rw [JM]; split
  ·rw [List.length_append,List.length_singleton]; omega
  ·omega
theorem Tk (L:List Bool)(s k:Nat) :(JM L s (k+1)).length<=(JM L s k).length+1:=by
 rw [JM]; split
 ·simp
 ·omega
theorem Nj.le_p (h:Nj L s v p m) :(JM L s m).length=0\/((JM L s m).length:Int)<=p:=by
 rcases QK m with h0 | h0
 ·subst h0; exact .inl rfl
 ·obtain ⟨k,rfl⟩ : ∃k,m=k+1:=⟨m - 1,by omega⟩;have:=h.2 k Zf;have:=Tk L s k;omega
theorem AK (L:List Bool)(s k:Nat) :(Kx L s k).length=(JM L s k).length:=by simp [Kx]
theorem ng (h:L.getD ((s+k)%L.length) false=true) :Kx L s (k+1)=Kx L s k++[(((s+k)%L.length:Nat) :Int)]:=by simp [Kx,nb h]
theorem gM (h:L.getD ((s+k)%L.length) false=false) :Kx L s (k+1)=Kx L s k:=by simp [Kx,gK h]
theorem L6 {i:Nat} : ∀ {k:Nat},i ∈ JM L s k->(∃j,j < k/\i=(s+j)%L.length)/\L.getD i false=true
 | 0,h=>by simp [JM] at h
 | k+1,h=>by
  rw [JM] at h
  split at h
  ·rename_i hg
   rw [List.mem_append] at h
   rcases h with h | h
   ·obtain ⟨⟨j,hj,e⟩,h2⟩:=L6 h;exact ⟨⟨j,by omega,e⟩,h2⟩
   ·rw [Yk] at h;subst h;exact ⟨⟨k,by omega,rfl⟩,hg⟩
  ·obtain ⟨⟨j,hj,e⟩,h2⟩:=L6 h;exact ⟨⟨j,by omega,e⟩,h2⟩
theorem ZdE {n s i j:Nat}(hij:i < j)(hj:j < i+n) :(s+i)%n≠(s+j)%n:=by
 intro h;have h1:=KD (s+i) n;have h2:=KD (s+j) n;rw [h] at h1;have h3:n*((s+j)/n)=n*((s+i)/n)+(j - i):=Zf
 rcases Nat.lt_trichotomy ((s+j)/n) ((s+i)/n) with hc | hc | hc
 ·exact Ziu
 ·rw [hc] at h3; omega
 ·exact Ziu
theorem PU: ∀ {k:Nat},k<=L.length->(JM L s k).Nodup
 | 0,_=>by simp [JM]
 | k+1,hk=>by
  have ih:=PU (k:=k) Zf;rw [JM]
  split
  ·rw [List.nodup_append];refine ⟨ih,by simp,fun a ha b hb=>?_⟩;rw [Yk] at hb;subst hb;obtain ⟨⟨j,hj,rfl⟩,_⟩:=L6 ha;exact ZdE hj Zf
  ·exact ih
theorem sg (n s k:Nat) :DJ n s k%n=(s+k)%n:=by
 unfold DJ
 split
 ·rename_i h; rw [h,Nat.add_zero]
 ·exact Nat.mod_mod _ _
theorem nx (n s k:Nat) :((s+k)%n+1)%n=DJ n s (k+1):=by
 unfold DJ;rw [if_neg Zf,Nat.mod_add_mod,Nat.add_assoc]
theorem yf {n s k:Nat}(hn:0 < n)(hk:0 < k) :DJ n s k < n:=by
 unfold DJ;rw [if_neg Zf];exact Nat.mod_lt _ hn
theorem ye {n s k:Nat}(hn:n<=100)(hs:s<=100)(hk:k<=n) :DJ n s k<=100:=by
 rcases QK k with h | h
 ·subst h; exact hs
 ·have:=yf (s:=s) (show 0 < n by omega) h; omega
theorem sZ (h: ∀j,j < m->(j:Int)< v/\j < L.length/\((JM L s j).length:Int)< p)(h1:(m:Int)< v)(h2:m < L.length)(h3:((JM L s m).length:Int)< p) :
  ∀j,j < m+1->(j:Int)< v/\j < L.length/\((JM L s j).length:Int)< p:=by
 intro j hj
 by_cases e:j=m
 ·subst e; exact ⟨h1,h2,h3⟩
 ·exact h j Zf
end
theorem Nj.ge {L:List Bool}{s m v p:Nat}(h:Nj L s v p m) :L.length<=m\/min v p<=m:=by
 have:=nc L s m
 rcases h.1 with h | h | h
 ·exact .inr Zf
 ·exact .inl h
 ·exact .inr Zf
end
section
open Go Go.RowKit
def oD (w:Zc)(c s:Nat) :Prop:=Zu w c 157 #[.int .i64 (s:Int)]
theorem gy (w:Zc) :Zv Zb 77 #[] w fun e w'=> ∃c,e= .returned (.pointer (some ⟨c,0,none⟩))/\w.heap.size<=c/\Zl (oD w' c 0)/\Zp w.heap.size w w':=by
 go_enter func77,ntmps77;go_wp2;go_ret;exact ⟨w.heap.size,rfl,Zh _,Za (Zt w _ _),(Below.refl _ _).alloc (Zh _) _⟩
theorem Zcd (c s:Nat)(w:Zc)(h:oD w c s) :YV 49 #[.pointer (some ⟨c,0,none⟩)] w (.int .i64 s):=by
 have x:=h.cell 0;clear h;go_enter func49,ntmps49;exact Uu
end
section
open Go Go.RowKit
theorem dI (s n:Nat) :((s:Int)).tmod (n:Int)=((s%n:Nat) :Int):=by
 rw [Int.tmod_eq_emod_of_nonneg Zf,Int.natCast_emod]
theorem cL (bp bn c s n:Nat)(w:Zc)(h1:Zu w bp 85 #[.pointer (some ⟨c,0,none⟩)])(h2:Zu w bn 3 #[.int .i64 (n:Int)])(h3:oD w c s)(hs:s<=100)(hn:0 < n)(hn':n<=100) :
  Zv Zb 293 #[.pointer (some ⟨bp,0,none⟩),.pointer (some ⟨bn,0,none⟩)] w fun e w'=>e= .returned (.int .i64 ((s%n:Nat) :Int))/\oD w' c ((s%n+1)%n)/\Zx (fun i=>i=c) w w':=by
 have x1:=h1.cell 0;have x2:=h2.cell 0;have x3:=h3.cell 0;have f3:=h3.frozen 0;have H3:=Za h3;have e1:=dI s n;have e2:=dI (s%n+1) n;have hm:=Nat.mod_lt s hn;generalize hr:s%n=r at*;rw [Int.natCast_add] at e2;have e3:IntKind.i64.wrap ((r:Int)+1)=(r:Int)+1:=IntWalk.i64_in _ Zf;have Ka: ¬(n:Int)=0:=Zf;clear h1 h2 h3 hr;go_enter func293,ntmps293;go_wp2;go_quiet (fail);go_wp2;go_region
 all_goals go_wp2
 all_goals go_ret
 all_goals refine ⟨rfl,?_,?_⟩
 ·have h:=(H3.o.drewN (nq+1)).set_ 0 (.int .i64 (((r:Int)+1)%n));have e:((r:Int)+1)%n=(((r+1)%n:Nat) :Int):=by rw [Int.natCast_emod]; rfl
  rw [e] at h ⊢;exact h
 ·exact Zx.setCell (S:=fun i=>i=c) (p:=⟨c,0,none⟩) ((ZM (fun i=>i=c) w).drewN (nq+1)) (.inl rfl) _
theorem cr (c n:Nat)(w:Zc) :
  Zv Zb 277 #[.pointer (some ⟨c,0,none⟩),.int .i64 n] w fun e w'=>e= .returned (.func (.func 293) #[] #[.pointer (some ⟨w.heap.size,0,none⟩),.pointer (some ⟨w.heap.size+1,0,none⟩)])/\(w.alloc (.cells #[.pointer (some ⟨c,0,none⟩)] 85)).alloc (.cells #[.int .i64 n] 3)=w':=by
 have CQ: ∀(fn:Fn) (first cap:Array Zk) (w:Zc),(Instr.makeFunc fn first cap).run Zb w= .ok (.func fn first cap) w:=fun _ _ _ _=>rfl
 go_enter func277,ntmps277;exact Uu
end
section
open Go.RowKit Go.Lib
def Ea (a m q:Int) :Int:=if q=0 then m else if m < a/q then a/q else m
theorem lQ (a m q:Int)(w:Zc)(a0:0<=a)(a1:a<=18446744073709551615)(q0:0<=q)(q1:q<=18446744073709551615) :
  YV 200 #[.int .u64 a,.int .u64 m,.int .u64 q] w (.int .u64 (Ea a m q)):=by
 by_cases hq:q=0
 ·have hf:Ea a m q=m:=by unfold Ea; rw [if_pos hq]
  subst hq;exact Zez
 ·have hd:(q==0)=false:=Xl;have oQ:0<=a/q:=J1 a0 Zf;have hq2:a/q<=a:=JG _ a0
  by_cases hm:a/q<=m
  ·have hf:Ea a m q=m:=by unfold Ea; rw [if_neg hq,if_neg Zf]
   exact Zez
  ·have hf:Ea a m q=a/q:=by unfold Ea; rw [if_neg hq,if_pos Zf]
   exact Zez
def VG (a d:Int) :Int:=if a%d=0 then a/d else a/d+1
theorem pM (a d:Int)(h0:0<=a)(h1:a<=18446744073709551615)(h2:1<=d)(hm: ¬a%d=0) :a/d+1<=18446744073709551615:=by
 by_cases e:d=1
 ·subst e; simp at hm
 ·have h3:a/d < 9223372036854775808:=Int.ediv_lt_of_lt_mul Zf (by
   have:9223372036854775808*2<=9223372036854775808*d:=Int.mul_le_mul_of_nonneg_left Zf Zf;omega)
  omega
theorem Cx (a d:Int)(h0:0<=a)(h2:1<=d) :0<=VG a d:=by
 have hq:0<=a/d:=J1 h0 Zf;unfold VG
 split <;> omega
def SE (a d:Int) :Bool:=decide (d≠0/\VG a d<=1099511627776)
def epQ (a d:Int) :Int:=if SE a d=true then VG a d else 0
theorem wK (a d:Int)(h:d=0) :epQ a d=0/\SE a d=false:=by
 have:SE a d=false:=by unfold SE; exact decide_eq_false (fun x=>x.1 h)
 exact ⟨by unfold epQ; rw [this]; rfl,this⟩
theorem CF (a d:Int)(h: ¬VG a d<=1099511627776) :epQ a d=0/\SE a d=false:=by
 have:SE a d=false:=by unfold SE; exact decide_eq_false (fun x=>h x.2)
 exact ⟨by unfold epQ; rw [this]; rfl,this⟩
theorem e9 (a d:Int)(h: ¬d=0)(h':VG a d<=1099511627776) :epQ a d=VG a d/\SE a d=true:=by
 have:SE a d=true:=by unfold SE; exact decide_eq_true ⟨h,h'⟩
 exact ⟨by unfold epQ; rw [if_pos this],this⟩
theorem lK (a:Int)(w:Zc) :
  YV 306 #[.int .u64 a,.int .u64 0] w (.tuple #[.int .u64 0,.bool false]):=by
 go_enter func306,ntmps306;exact dU
theorem aJ (a d:Int)(w:Zc)(h0:0<=a)(h1:a<=18446744073709551615)(h2:1<=d)(h3:d<=18446744073709551615) :
  YV 306 #[.int .u64 a,.int .u64 d] w (.tuple #[.int .u64 (VG a d),.bool true]):=by
 have hd:(d==0)=false:=Xl;have hq:0<=a/d:=J1 h0 Zf;have hq2:a/d<=a:=JG _ h0
 by_cases hm:a%d=0
 ·have hf:VG a d=a/d:=by unfold VG; rw [if_pos hm]
  exact Ziv
 ·have hq3:=pM a d h0 h1 h2 hm;have hf:VG a d=a/d+1:=by unfold VG; rw [if_neg hm]
  exact Ziv
theorem bg (a:Int)(w:Zc) :
  YV 305 #[.int .u64 a,.int .u64 0] w (.tuple #[.int .i64 0,.bool false]):=by
 have H:=Za (fun w=>lK a w);go_enter func305,ntmps305;go_wp2_with fail;refine (H.o _).mono ?_;exact uI
theorem be (a d:Int)(w:Zc)(h0:0<=a)(h1:a<=18446744073709551615)(h2:1<=d)(h3:d<=18446744073709551615)(h4:1099511627776 < VG a d) :
  YV 305 #[.int .u64 a,.int .u64 d] w (.tuple #[.int .i64 0,.bool false]):=by
 have H:=Za (fun w=>aJ a d w h0 h1 h2 h3);exact Zh0
theorem fg (a d:Int)(w:Zc)(h0:0<=a)(h1:a<=18446744073709551615)(h2:1<=d)(h3:d<=18446744073709551615)(h4:VG a d<=1099511627776) :
  YV 305 #[.int .u64 a,.int .u64 d] w (.tuple #[.int .i64 (VG a d),.bool true]):=by
 have H:=Za (fun w=>aJ a d w h0 h1 h2 h3);have h5:=Cx a d h0 h2;exact Zh0
theorem fe (a d:Int)(w:Zc)(h0:0<=a)(h1:a<=18446744073709551615)(h2:0<=d)(h3:d<=18446744073709551615) :
  YV 305 #[.int .u64 a,.int .u64 d] w (.tuple #[.int .i64 (epQ a d),.bool (SE a d)]):=by
 by_cases hd:d=0
 ·have h:=wK a d hd;rw [h.1,h.2];subst hd;exact bg a w
 ·by_cases h4:VG a d<=1099511627776
  ·have h:=e9 a d hd h4;rw [h.1,h.2];exact fg a d w h0 h1 Zf h3 h4
  ·have h:=CF a d h4;rw [h.1,h.2];exact be a d w h0 h1 Zf h3 Zf
end
section
def Vf (lim:Int)(p:Nat × Int)(x:Int) :Nat × Int:=if p.1=0\/lim < p.2+x then(p.1+1,x) else(p.1,p.2+x)
def zS (lim:Int) :Nat × Int->List Int->Nat × Int
 | p,[]=>p
 | p,x::r=>zS lim (Vf lim p x) r
def pQ (lim s:Int) :List Int->Nat
 | []=>0
 | y::r=>if lim < s+y then 0 else 1+pQ lim (s+y) r
def FP (lim:Int) :List Int->Nat
 | []=>0
 | x::r=>1+pQ lim x r
def bnd (lim:Int)(X:List Int) :Nat:=(zS lim (0,0) X).1
section
variable {lim s x:Int} {X r:List Int} {k j n m:Nat}
theorem Ss (lim s x:Int) :Vf lim (0,s) x=(1,x):=by simp [Vf]
theorem Ad (h: ¬lim < s+x) :Vf lim (k+1,s) x=(k+1,s+x):=by simp [Vf,h]
theorem Sr (h:lim < s+x) :Vf lim (k+1,s) x=(k+1+1,x):=by simp [Vf,h]
theorem pU: ∀(X:List Int) (s:Int),pQ lim s X<=X.length
 | [],s=>Zh _
 | y::r,s=>by
  have:=pU r (s+y);rw [pQ,Yc]
  split <;> omega
theorem Ct (X:List Int) :FP lim X<=X.length:=by
 cases X with
 | nil=>exact Zh _
 | cons y r=>have:=pU (lim:=lim) r y; rw [FP,Yc]; omega
def Stp (lim:Int)(X:List Int)(n:Nat) :Prop:=
 n<=X.length/\(∀m,0 < m->m < n->XW X (m+1)<=lim)/\(n < X.length->0 < n/\lim < XW X (n+1))
theorem Stp.unique (h:Stp lim X n)(k:Stp lim X m) :n=m:=by
 rcases Nat.lt_trichotomy n m with hl | hl | hl
 ·obtain ⟨h1,h2⟩:=h.2.2 (by have:=k.1; omega);have:=k.2.1 n h1 hl;omega
 ·exact hl
 ·obtain ⟨h1,h2⟩:=k.2.2 (by have:=h.1; omega);have:=h.2.1 m h1 hl;omega
theorem Be (y:Int)(r:List Int) : ∀k,XW (y::r) (k+1)=y+XW r k
 | 0=>by simp [XW]
 | k+1=>by rw [XW,Be y r k,XW]; simp; omega
theorem aP: ∀(X:List Int) (s:Int),(∀m,m < pQ lim s X->s+XW X (m+1)<=lim)/\(pQ lim s X < X.length->lim < s+XW X (pQ lim s X+1))
 | [],s=>⟨fun m h=>by simp [pQ] at h,fun h=>by simp at h⟩
 | y::r,s=>by
  rw [pQ]
  by_cases h:lim < s+y
  ·rw [if_pos h];exact ⟨fun m hm=>by omega,fun _=>by simp [XW]; exact h⟩
  ·rw [if_neg h];obtain ⟨h1,h2⟩:=aP r (s+y);refine ⟨fun m hm=>?_,fun hl=>?_⟩
   ·rw [Be]
    cases m with
    | zero=>simp [XW]; omega
    | succ m=>have:=h1 m Zf; omega
   ·rw [Yc] at hl;have:=h2 Zf;rw [Nat.add_comm 1 (pQ lim (s+y) r),Be];omega
theorem Sk (lim:Int)(X:List Int) :Stp lim X (FP lim X):=by
 refine ⟨Ct X,?_⟩
 cases X with
 | nil=>exact ⟨fun m h1 h2=>by simp [FP] at h2,fun h=>by simp at h⟩
 | cons y r=>
  obtain ⟨h1,h2⟩:=aP (lim:=lim) r y;rw [FP];refine ⟨fun m h3 h4=>?_,fun h3=>⟨by omega,?_⟩⟩
  ·obtain ⟨j,rfl⟩ : ∃j,m=j+1:=⟨m - 1,by omega⟩;rw [Be];exact h1 j Zf
  ·rw [Yc] at h3;rw [Nat.add_comm 1 (pQ lim y r),Be];exact h2 Zf
end
end
section
open Go Go.RowKit
def VO (L:List Int) :Array Zk:=(L.map (Value.int .u64)).toArray
theorem lM {L:List Int}{i:Nat}(hi:i < L.length) :(VO L)[i]?=some (.int .u64 (L.getD i 0)):=by
 rw [VO,List.getElem?_toArray,List.getElem?_map,List.getD_eq_getElem?_getD,List.getElem?_eq_getElem hi];rfl
theorem eJ (L:List Int)(i:Nat)(b:Int) :(VO L).setIfInBounds i (.int .u64 b)=VO (L.set i b):=by
 simp [VO,List.map_set]
theorem mQ (n:Nat) :madeCells #[.int .u64 0] n=VO (ZP n 0):=by
 apply Array.ext
 ·simp [madeCells,VO]
 ·intro i h1 h2;simp [madeCells,Nat.mod_one,VO]
theorem dJ: ∃i,Tryz.prog.info? 23=some i/\i.zero=some (.int .u64 0)/\i.size=1/\i.bytes=8:=by
 have h:(Tryz.prog.info? 23).map (fun i=>(i.zero,i.size,i.bytes))=some (some (.int .u64 0),1,8):=ZC
 cases hi:Tryz.prog.info? 23 with
 | none=>exact Re
 | some i=>
  exact Wn
theorem EM (n:Nat)(hn:n<=100000)(w:Zc) :
  (Instr.makeSlice 121 (.int .i64 (n:Int)) (.int .i64 (n:Int))).run Zb w= .ok (.slice (some ⟨w.heap.size,0,none⟩) n n) (w.alloc (.cells (VO (ZP n 0)) 23)):=by
 obtain ⟨i,hi,hz,hs,MG⟩:=dJ;have Eu:=Jc (P:=Zb) 121 23 i _ underlying121 hi hz .i64 .i64 n n (Zh _) Wl Zf w;rw [hs,Nat.mul_one] at Eu;have vh:(Value.int .u64 0).cells= #[.int .u64 0]:=rfl;rw [vh,mQ] at Eu;exact Eu
def EZ (w:Zc)(g:Nat)(L:List Int) :Prop:=Zu w g 23 (VO L)
section
variable {w:Zc} {g:Nat} {L:List Int}
theorem EZ.cell (h:EZ w g L){i:Nat}(hi:i < L.length) :w.cell? ⟨g,i,none⟩=some (.int .u64 (L.getD i 0)):=(Zu.cell h i).trans (lM hi)
theorem EZ.frozen (h:EZ w g L)(i:Nat) :w.frozen? ⟨g,i,none⟩=false:=Zu.frozen h i
theorem EZ.set (h:EZ w g L)(i:Nat)(b:Int) :EZ (w.setCell ⟨g,i,none⟩ (.int .u64 b)) g (L.set i b):=by
 have:=Va h i (.int .u64 b);rw [eJ] at this;exact this
theorem EZ.drewN (h:EZ w g L)(n:Nat) :EZ (w.drewN n) g L:=h
theorem EZ.alloc (h:EZ w g L)(o:Obj) :EZ (w.alloc o) g L:=Zu.alloc h o
theorem EZ.below {w':Zc}(h:EZ w g L)(hb:Zp w.heap.size w w') :EZ w' g L:=Zu.below h hb (Zu.lt h)
end
end
section
open Go.RowKit
def Y3 (p:Zc->(Nat->Prop)->Prop) :Prop:=(∀w S,p w S-> ∀i,S i->i < w.heap.size)/\ ∀w w' S T,p w S->Zx T w w'->(∀i,S i-> ¬T i)->p w' S
structure M6 (n:Nat)(P:Nat->Zc->(Nat->Prop)->Prop)(Φ:Nat->Nat->Prop)(w:Zc) :Prop where
 part: ∀k,k < n->P k w (Φ k)
 lt: ∀k,k < n-> ∀i,Φ k i->i < w.heap.size
 ap: ∀j k,j < n->k < n->j≠k-> ∀i,Φ j i-> ¬Φ k i
def Dm (Φ:Nat->Nat->Prop)(k:Nat)(S:Nat->Prop) :Nat->Nat->Prop:=fun j=>if j=k then S else Φ j
section
variable {n:Nat} {P P':Nat->Zc->(Nat->Prop)->Prop} {Φ:Nat->Nat->Prop} {w w':Zc} {S' T:Nat->Prop}
theorem Xm (k:Nat) :Dm Φ k S' k=S':=if_pos rfl
theorem YP {j k:Nat}(h:j≠k) :Dm Φ k S' j=Φ j:=if_neg h
theorem M6.kept (h:M6 n P Φ w)(hP: ∀j,j < n->Y3 (P j))(hk:Zx T w w')(hT: ∀k,k < n-> ∀i,Φ k i-> ¬T i) :M6 n P Φ w':=
 ⟨fun k Hd=>(hP k Hd).2 w w' _ T (h.part k Hd) hk (hT k Hd),fun k Hd i hi=>YE (h.lt k Hd i hi) hk.size,h.ap⟩
theorem M6.below (h:M6 n P Φ w)(hP: ∀j,j < n->Y3 (P j))(hb:Zp w.heap.size w w') :M6 n P Φ w':=
 h.kept hP (Zx.of_below (S:=fun _=>False) hb) (fun _ _ _ _ h=>h)
theorem M6.turn (h:M6 n P Φ w)(hP: ∀j,j < n->Y3 (P j)){k:Nat}(hk:k < n)(Gt: ∀j,j < n->j≠k->P' j=P j)(wX:Y3 (P' k))(hn:P' k w' S')(hS: ∀i,S' i->Φ k i\/w.heap.size<=i)
  (hkp:Zx (Φ k) w w') :M6 n P' (Dm Φ k S') w':=by
 refine ⟨fun j hj=>?_,fun j hj i hi=>?_,fun j l hj hl EE i hi GQ=>?_⟩
 ·by_cases ED:j=k
  ·subst ED; rw [Xm]; exact hn
  ·rw [YP ED,Gt j hj ED];exact (hP j hj).2 w w' _ _ (h.part j hj) hkp (h.ap j k hj hk ED)
 ·by_cases ED:j=k
  ·subst ED; rw [Xm] at hi; exact wX.1 w' S' hn i hi
  ·rw [YP ED] at hi;exact YE (h.lt j hj i hi) hkp.size
 ·by_cases ED:j=k
  ·subst ED;rw [Xm] at hi;rw [YP (fun e=>EE e.symm)] at GQ
   rcases hS i hi with h1 | h1
   ·exact h.ap j l hj hl EE i h1 GQ
   ·exact absurd (h.lt l hl i GQ) Zf
  ·rw [YP ED] at hi
   by_cases NG:l=k
   ·subst NG;rw [Xm] at GQ
    rcases hS i GQ with h1 | h1
    ·exact h.ap j l hj hl ED i hi h1
    ·exact absurd (h.lt j hj i hi) Zf
   ·rw [YP NG] at GQ;exact h.ap j l hj hl EE i hi GQ
theorem M6.turn2 (h:M6 n P Φ w)(hP: ∀j,j < n->Y3 (P j)){k m:Nat}(hk:k < n)(hm:m < n)(hkm:k≠m)(Gt: ∀j,j < n->j≠k->j≠m->P' j=P j)(hPk:Y3 (P' k))(hPm:Y3 (P' m)){R':Nat->Prop}
  (u9:P' k w' S') (jS:P' m w' R') (hS: ∀i,S' i->Φ k i\/w.heap.size<=i) (hR: ∀i,R' i->Φ m i) (hSR: ∀i,S' i-> ¬R' i)
  (hkp:Zx T w w') (hT: ∀i,T i->Φ k i\/Φ m i) :M6 n P' (Dm (Dm Φ k S') m R') w':=by
 have base: ∀j,j < n->j≠k->j≠m-> ∀i,Φ j i-> ¬T i:=fun j hj h1 h2 i hi ht=>by
  rcases hT i ht with h3 | h3
  ·exact h.ap j k hj hk h1 i hi h3
  ·exact h.ap j m hj hm h2 i hi h3
 have at1:Dm (Dm Φ k S') m R' k=S':=by rw [YP hkm,Xm]
 have at2:Dm (Dm Φ k S') m R' m=R':=Xm m;have at3: ∀j,j≠k->j≠m->Dm (Dm Φ k S') m R' j=Φ j:=fun j h1 h2=>by rw [YP h2,YP h1]
 have old: ∀j,j < n->j≠k->j≠m-> ∀i,Φ j i-> ¬S' i/\ ¬R' i:=fun j hj h1 h2 i hi=>⟨fun hs=>by
  rcases hS i hs with h3 | h3
  ·exact h.ap j k hj hk h1 i hi h3
  ·exact absurd (h.lt j hj i hi) Zf,fun hr=>h.ap j m hj hm h2 i hi (hR i hr)⟩
 refine ⟨fun j hj=>?_,fun j hj i hi=>?_,fun j l hj hl EE i hi GQ=>?_⟩
 ·by_cases h1:j=k
  ·subst h1; rw [at1]; exact u9
  ·by_cases h2:j=m
   ·subst h2; rw [at2]; exact jS
   ·rw [at3 j h1 h2,Gt j hj h1 h2];exact (hP j hj).2 w w' _ _ (h.part j hj) hkp (base j hj h1 h2)
 ·by_cases h1:j=k
  ·subst h1; rw [at1] at hi; exact hPk.1 w' S' u9 i hi
  ·by_cases h2:j=m
   ·subst h2; rw [at2] at hi; exact hPm.1 w' R' jS i hi
   ·rw [at3 j h1 h2] at hi;exact YE (h.lt j hj i hi) hkp.size
 ·by_cases h1:j=k
  ·subst h1;rw [at1] at hi
   by_cases h2:l=m
   ·subst h2; rw [at2] at GQ; exact hSR i hi GQ
   ·rw [at3 l (fun e=>EE e.symm) h2] at GQ;exact (old l hl (fun e=>EE e.symm) h2 i GQ).1 hi
  ·by_cases h2:j=m
   ·subst h2;rw [at2] at hi
    by_cases h3:l=k
    ·subst h3; rw [at1] at GQ; exact hSR i GQ hi
    ·rw [at3 l h3 (fun e=>EE e.symm)] at GQ;exact (old l hl h3 (fun e=>EE e.symm) i GQ).2 hi
   ·rw [at3 j h1 h2] at hi
    by_cases h3:l=k
    ·subst h3; rw [at1] at GQ; exact (old j hj h1 h2 i hi).1 GQ
    ·by_cases h4:l=m
     ·subst h4; rw [at2] at GQ; exact (old j hj h1 h2 i hi).2 GQ
     ·rw [at3 l h3 h4] at GQ;exact h.ap j l hj hl EE i hi GQ
theorem M6.more (h:M6 n P Φ w)(hP: ∀j,j < n->Y3 (P j))(wX:Y3 (P' n))(Gt: ∀j,j < n->P' j=P j)(hn:P' n w' S')(hS: ∀i,S' i->w.heap.size<=i)(hb:Zp w.heap.size w w') :M6 (n+1) P' (Dm Φ n S') w':=by
 have k:=h.below hP hb;refine ⟨fun j hj=>?_,fun j hj i hi=>?_,fun j l hj hl EE i hi GQ=>?_⟩
 ·by_cases Dc:j=n
  ·subst Dc; rw [Xm]; exact hn
  ·rw [YP Dc,Gt j Zf]; exact k.part j Zf
 ·by_cases Dc:j=n
  ·subst Dc; rw [Xm] at hi; exact wX.1 w' S' hn i hi
  ·rw [YP Dc] at hi; exact k.lt j Zf i hi
 ·by_cases Dc:j=n
  ·subst Dc;rw [Xm] at hi;rw [YP (fun e=>EE e.symm)] at GQ;have:=h.lt l Zf i GQ;have:=hS i hi;omega
  ·rw [YP Dc] at hi
   by_cases hln:l=n
   ·subst hln;rw [Xm] at GQ;have:=h.lt j Zf i hi;have:=hS i GQ;omega
   ·exact Zbb
theorem M6.put (h:M6 n P Φ w)(Gt: ∀j,j < n->P' j=P j)(hn:P' n w S')(hl: ∀i,S' i->i < w.heap.size)(hd: ∀k,k < n-> ∀i,Φ k i-> ¬S' i) :M6 (n+1) P' (Dm Φ n S') w:=by
 refine ⟨fun j hj=>?_,fun j hj i hi=>?_,fun j l hj hl' EE i hi GQ=>?_⟩
 ·by_cases Dc:j=n
  ·subst Dc; rw [Xm]; exact hn
  ·rw [YP Dc,Gt j Zf]; exact h.part j Zf
 ·by_cases Dc:j=n
  ·subst Dc; rw [Xm] at hi; exact hl i hi
  ·rw [YP Dc] at hi; exact h.lt j Zf i hi
 ·by_cases Dc:j=n
  ·subst Dc;rw [Xm] at hi;rw [YP (fun e=>EE e.symm)] at GQ;exact hd l Zf i GQ hi
  ·rw [YP Dc] at hi
   by_cases hln:l=n
   ·subst hln;rw [Xm] at GQ;exact hd j Zf i hi GQ
   ·exact Zbb
theorem M6.less (h:M6 (n+1) P Φ w)(Gt: ∀j,j < n->P' j=P j) :M6 n P' Φ w:=
 ⟨fun j hj=>by rw [Gt j hj]; exact h.part j Zf,fun j hj=>h.lt j Zf,fun j k hj hk=>h.ap j k Zf Zf⟩
theorem M6.remap {M:Nat}(h:M6 M P Φ w)(f:Nat->Nat)(hf: ∀k,k < n->f k < M)(fE: ∀j k,j < n->k < n->f j=f k->j=k)(hP: ∀k,k < n->P' k=P (f k)) :M6 n P' (fun k=>Φ (f k)) w:=
 ⟨fun k hk=>by rw [hP k hk]; exact h.part _ (hf k hk),fun k hk=>h.lt _ (hf k hk),fun j k hj hk ED=>h.ap _ _ (hf j hj) (hf k hk) fun e=>ED (fE j k hj hk e)⟩
theorem M6.zero:M6 0 P Φ w:=⟨fun k hk=>by omega,fun k hk=>by omega,fun j k hj=>by omega⟩
theorem Bd {b t:Nat}{cs:Array Zk} :Y3 fun w S=>Zu w b t cs/\ ∀i,S i ↔ i=b:=
 ⟨fun w S h i hi=>by rw [(h.2 i).1 hi]; exact h.1.lt,fun w w' S T h hk hT=>⟨h.1.kept hk (hT b ((h.2 b).2 rfl)),h.2⟩⟩
end
end
section
open Go.RowKit
theorem rU (L:Int)(w:Zc)(h:1<=L) :
  Zv Zb 74 #[.int .i64 L] w fun e w'=>e= .returned (.pointer (some ⟨w.heap.size,0,none⟩))/\w.alloc (.cells #[.int .i64 0,.int .i64 L] 184)=w':=by
 go_enter func74,ntmps74;exact Uu
theorem lH (b:Nat)(n L:Int)(w:Zc)(h:DN w b n L) :
  YV 91 #[.pointer (some ⟨b,0,none⟩)] w (.int .i64 n):=by
 obtain ⟨c0,c1,cf⟩:=Hr h;clear h;go_enter func91,ntmps91;go_wp2_with (go_at_call 140; refine (Ht _ _ _ c0).mono ?_; rintro e w' ⟨rfl,rfl⟩);go_ret;exact DF
theorem l7 (b:Nat)(n L:Int)(w:Zc)(hn:n<=9223372036854775807)(h:DN w b n L) :
  Xb 92 #[.pointer (some ⟨b,0,none⟩)] w (.int .i64 (Nx n L)):=by
 obtain ⟨c0,c1,cf⟩:=Hr h;clear h;go_enter func92,ntmps92;go_wp2;go_quiet (first | (go_at_call 140; exact Bb (Ht _ _ _ (by simpa using c0))) | (go_at_call 141; exact Bb (ba _ _ _ hn)));exact ld
theorem tl (b:Nat)(n L:Int)(w:Zc)(h0:0<=n)(hn:n<=9223372036854775806)(hL:1<=L)(h:DN w b n L) :
  Zv Zb 197 #[.pointer (some ⟨b,0,none⟩)] w fun e w'=>e= .returned (.bool ((n+1)%L==0))/\ ∃m,w'=(w.setCell ⟨b,0,none⟩ (.int .i64 (n+1))).drewN m:=by
 obtain ⟨c0,c1,cf⟩:=Hr h;have hz:(L==0)=false:=Xl;have d0:(w.setCell ⟨b,0,none⟩ (.int .i64 (n+1))).cell? ⟨b,0,none⟩=some (.int .i64 (n+1)):=Zu.cell (Va h 0 _) 0;clear h;go_enter func197,ntmps197;go_wp2_with (go_at_call 232; refine (aw _ _ _ h0 hn c0 cf).mono ?_; rintro e w' ⟨rfl,rfl⟩);go_quiet ((go_at_call 140; exact Bb (Ht _ _ _ (by simpa using d0))));exact ld
theorem yY (b:Nat)(n L:Int)(w:Zc)(h0:0<=n)(hn:n<=9223372036854775806)(hL:1<=L)(h:DN w b n L) :
  Zv Zb 197 #[.pointer (some ⟨b,0,none⟩)] w fun e w'=>e= .returned (.bool ((n+1)%L==0))/\DN w' b (n+1) L/\w.grownBy w' (some b):=
 (tl b n L w h0 hn hL h).mono fun e w' ⟨he,m,hm⟩=>⟨he,by subst hm; exact Va h 0 _,by subst hm; exact Vz (QD (Kl _ _) (.inl rfl) _) m⟩
end
section
open Go.RowKit
theorem cY (s:Nat)(w:Zc)(h:1<=s)(h2:s<=1048576) :
  Zv Zb 82 #[.int .i64 s] w fun e w'=>e= .returned (.pointer (some ⟨w.heap.size,0,none⟩))/\w.alloc (.cells #[.int .i64 s,.slice none 0 0,.int .i64 0,.int .i64 0] 151)=w':=by
 have h0: ¬(s:Int)< 1:=Zf;have h3: ¬(1048576:Int)< (s:Int):=Zf;go_enter func82,ntmps82;exact Uu
theorem Tu (b:Nat)(c:Int)(w:Zc)(h:w.cell? ⟨b,3,none⟩=some (.int .i64 c)) :
  YV 288 #[.pointer (some ⟨b,0,none⟩)] w (.int .i64 c):=by
 go_enter func288,ntmps288;exact Uu
theorem PX (b:Nat)(s c:Nat)(w:Zc)(h0:w.cell? ⟨b,0,none⟩=some (.int .i64 s))(h3:w.cell? ⟨b,3,none⟩=some (.int .i64 c))(hs:s<=1048576)(hc:c<=s) :
  Xb 189 #[.pointer (some ⟨b,0,none⟩)] w (.int .i64 ((s - c:Nat) :Int)):=by
 go_enter func189,ntmps189;exact tW
theorem Ll (b n f i:Nat)(a:Option Addr)(cap:Nat)(w:Zc)(h1:w.cell? ⟨b,1,none⟩=some (.slice a n cap))(h2:w.cell? ⟨b,2,none⟩=some (.int .i64 f))(hn:0 < n)(hf:f<=1048576)(hi:i<=1048576) :
  Xb 191 #[.pointer (some ⟨b,0,none⟩),.int .i64 i] w (.int .i64 (((f+i)%n:Nat) :Int)):=by
 have hz:((n:Int)==0)=false:=Xl;go_enter func191,ntmps191;exact tX
end
section
open Go.RowKit
theorem Ts (b g h size n f c m cap:Nat)(C D F:List Zk)(w:Zc)(hi:QX 151 116 2 w b g size n f c C)(hw:QF C (f*2) F)(hF:F.length=c*2)(h1: ∀v ∈ F,v.oneCell'=true)
  (hD:Zu w h 116 D.toArray) (DS:D.length=m*2) (uZ:c<=m) (fI:m<=cap) (Uz:cap<=1048576) (jO:h≠g) :
  Zv Zb 95 #[.pointer (some ⟨b,0,none⟩),.slice (some ⟨h,0,none⟩) m cap] w fun e w'=>e= .returned (.tuple #[])/\Zu w' h 116 (F++D.drop F.length).toArray/\Zx (fun i=>i=h) w w'/\w'.heap.size=w.heap.size:=by
 obtain ⟨c0,c1,c2,c3,-,-,-⟩:=hi.cells;obtain ⟨B1,B2,hC,Wu,SP,OW,hs⟩:=hi;have DO:=Za B1;have Gv:=Za B2;have HD:=Za hD;have RZ:=Za DS;have HF:=Za hF;have HC:=Za hC;have H1:=Za h1;clear B1 B2 hD DS hF hC h1;have hw:QF C (f*2) F:=ui
 have HW:=Za hw;have hT:(Tryz.prog.info? 116).map (·.size)=some 2:=ZC;obtain ⟨u,hu1,hu2,hu3⟩ : ∃u,u<=c/\f+u<=n/\(u=c\/f+u=n):=tJ
 have HT:=Za hT;clear hw hT
 by_cases hfc:f+c<=n
 ·have hle:((f:Int)+(c:Int))<=(n:Int):=Zf;obtain rfl:u=c:=Zf;go_enter func95,ntmps95;go_wp2;go_quiet (fail);go_wp2;refine GL 11 ?_;refine GM ?_
  repeat (go_big_quiet_step (fail))
  refine XK ?_;intro _ Jq;obtain ⟨nr,Y9⟩:=Jq;subst Y9;have l1:(F.take (u*2)).length=u*2:=Cg
  refine Y1 rfl (.tmp 21) (.tmp 31) _ _ rfl 116 underlying25 2 Zf HT.o _ _ _ _ _ _ rfl rfl h 0 D 116 HD.o (F.take (u*2)) u Pp l1
   (fun _=>⟨rfl,_,rfl,Mb Gv.o HW.o DC⟩) Pr (fun v hv=>H1.o v (ZQ hv)) ?_
  intro W1 HD1 K1 S1;have L4: ¬b=h:=Js DO.o HD.o YW;have d1:=K1.cell (p:=⟨b,1,none⟩) L4 FM;have d3:=K1.cell (p:=⟨b,3,none⟩) L4 FL;have lq:=Za l1;have Oy:=Za S1;have Nh:=Za K1;have ai:Zl (Zu W1 g 116 C.toArray):=Za (QG (w:=(w.drewN nq).drewN nr) Gv.o K1 (Q0 jO));clear l1 S1 K1 c1 c3;go_wp2;refine GL 14 ?_;refine GM ?_
  repeat (go_big_quiet_step (fail))
  refine XK ?_;intro _ Jq;obtain ⟨ns,Y9⟩:=Jq;subst Y9;refine Y1 rfl (.tmp 35) (.tmp 46) _ _ rfl 116 underlying25 2 Zf HT.o _ _ _ _ _ _ rfl rfl h (u*2) _ 116 HD1.o (F.drop (u*2)) 0 FJ Po
   (fun h0=>by have:=HF.o; simp at h0; omega) Cd (fun v hv=>H1.o v (Xc hv)) ?_
  exact Zhy
 ·have hle: ¬((f:Int)+(c:Int))<=(n:Int):=Zf;have XV:(n:Int)< (f:Int)+(c:Int):=Zf;obtain rfl:n=f+u:=Zf;go_enter func95,ntmps95;go_wp2;go_quiet (fail);go_wp2;refine GL 11 ?_;refine GM ?_
  repeat (go_big_quiet_step (fail))
  refine XK ?_;intro _ Jq;obtain ⟨nr,Y9⟩:=Jq;subst Y9;have l1:(F.take (u*2)).length=u*2:=Cg
  refine Y1 rfl (.tmp 21) (.tmp 31) _ _ rfl 116 underlying25 2 Zf HT.o _ _ _ _ _ _ rfl rfl h 0 D 116 HD.o (F.take (u*2)) u Pp l1
   (fun _=>⟨rfl,_,rfl,Mb Gv.o HW.o DC⟩) Pr (fun v hv=>H1.o v (ZQ hv)) ?_
  intro W1 HD1 K1 S1;have L4: ¬b=h:=Js DO.o HD.o YW;have d1:=K1.cell (p:=⟨b,1,none⟩) L4 FM;have d3:=K1.cell (p:=⟨b,3,none⟩) L4 FL;have lq:=Za l1;have Oy:=Za S1;have Nh:=Za K1;have ai:Zl (Zu W1 g 116 C.toArray):=Za (QG (w:=(w.drewN nq).drewN nr) Gv.o K1 (Q0 jO));clear l1 S1 K1 c1 c3;go_wp2;refine GL 14 ?_;refine GM ?_
  repeat (go_big_quiet_step (fail))
  refine XK ?_;intro _ Jq;obtain ⟨ns,Y9⟩:=Jq;subst Y9;have e:C.length -(f*2)=(u*2):=DC;have hx:=TE ai.o HW.o;rw [e] at hx;refine Y1 rfl (.tmp 35) (.tmp 46) _ _ rfl 116 underlying25 2 Zf HT.o _ _ _ _ _ _ rfl rfl h (u*2) _ 116 HD1.o (F.drop (u*2)) (c - u) jf Po
   (fun _=>⟨rfl,_,rfl,hx⟩) Cd (fun v hv=>H1.o v (Xc hv)) ?_
  clear hx e;exact Zhy
end
section
open Go.RowKit
theorem Tr (b h size m cap:Nat)(D:List Zk)(w:Zc)(hi:BN 151 w b size)
  (hD:Zu w h 116 D.toArray) (DS:D.length=m*2) (fI:m<=cap) (Uz:cap<=1048576) :
  Zv Zb 95 #[.pointer (some ⟨b,0,none⟩),.slice (some ⟨h,0,none⟩) m cap] w fun e w'=>e= .returned (.tuple #[])/\Zu w' h 116 D.toArray/\Zx (fun i=>i=h) w w'/\w'.heap.size=w.heap.size:=by
 obtain ⟨c0,c1,c2,c3,-,-,-⟩:=hi.cells;obtain ⟨B1,bR,hs⟩:=hi;have DO:=Za B1;have HD:=Za hD;have RZ:=Za DS;clear B1 hD DS;have hT:(Tryz.prog.info? 116).map (·.size)=some 2:=ZC;have HT:=Za hT;clear hT;go_enter func95,ntmps95;go_wp2;go_quiet (fail);go_wp2;refine GL 11 ?_;refine GM ?_
 repeat (go_big_quiet_step (fail))
 refine XK ?_;intro _ Jq;obtain ⟨nr,Y9⟩:=Jq;subst Y9;refine Y1 rfl (.tmp 21) (.tmp 31) _ _ rfl 116 underlying25 2 Zf HT.o _ _ _ _ _ _ rfl rfl h 0 D 116 HD.o [] 0 FJ rfl
  (fun h0=>by simp at h0) ZE (fun v hv=>by simp at hv) ?_
 intro W1 HD1 K1 S1;have L4: ¬b=h:=Js DO.o HD.o YW;have d1:=K1.cell (p:=⟨b,1,none⟩) L4 FM;have d3:=K1.cell (p:=⟨b,3,none⟩) L4 FL;have Oy:=Za S1;have Nh:=Za K1;clear S1 K1 c1 c3;go_wp2;refine GL 14 ?_;refine GM ?_
 repeat (go_big_quiet_step (fail))
 refine XK ?_;intro _ Jq;obtain ⟨ns,Y9⟩:=Jq;subst Y9;refine Y1 rfl (.tmp 35) (.tmp 46) _ _ rfl 116 underlying25 2 Zf HT.o _ _ _ _ _ _ rfl rfl h 0 _ 116 HD1.o [] 0 FJ rfl
  (fun h0=>by simp at h0) ZE (fun v hv=>by simp at hv) ?_
 intro W2 HD2 K2 S2;have Vx:Zu W2 h 116 D.toArray/\Zx (fun i=>i=h) w W2/\W2.heap.size=w.heap.size:=Zeq
 exact tO
theorem NV (b h size c m cap:Nat)(go:Option Nat)(D F:List Zk)(w:Zc)(hi:Yv 151 116 2 w b go size c F)
  (hD:Zu w h 116 D.toArray) (DS:D.length=m*2) (uZ:c<=m) (fI:m<=cap) (Uz:cap<=1048576) (jO:go≠some h) :
  Zv Zb 95 #[.pointer (some ⟨b,0,none⟩),.slice (some ⟨h,0,none⟩) m cap] w fun e w'=>e= .returned (.tuple #[])/\Zu w' h 116 (F++D.drop F.length).toArray/\Zx (fun i=>i=h) w w'/\w'.heap.size=w.heap.size:=by
 obtain ⟨h1,h2,⟨rfl,rfl,h3⟩ | ⟨g,n,f,C,rfl,h3,h4⟩⟩:=hi
 ·obtain rfl:F=[]:=ZR QQ;have:=Tr b h size m cap D w h3 hD DS fI Uz;exact Bt
 ·exact Ts b g h size n f c m cap C D F w h3 h4 h1 h2 hD DS uZ fI Uz (fun e=>jO Er)
theorem FU (b size c need n:Nat)(a:Option Addr)(go:Option Nat)(F:List Zk)(w:Zc)(hi:Yv 151 116 2 w b go size c F)(c1:w.cell? ⟨b,1,none⟩=some (.slice a n n))(hn:n < need)(OW:n<=size)(SP:c<=need)(Lb:need<=size) :
  Zv Zb 190 #[.pointer (some ⟨b,0,none⟩),.int .i64 need] w fun e w'=>e= .returned (.tuple #[])/\
   ∃n' C,QX 151 116 2 w' b w.heap.size size n' 0 c C/\QF C 0 F/\need<=n'/\Zx (fun i=>i=b) w w':=by
 obtain ⟨c0,c3⟩:=hi.cells;obtain ⟨_,bR,hs⟩:=hi.size_le;have bK: ∀i,go=some i->i < w.heap.size:=fun i e=>hi.lt i (.inr e.symm)
 have NC:b < w.heap.size:=hi.lt b (.inl rfl);obtain ⟨x2,x3,bx⟩ : ∃x2 x3,Zu w b 151 #[.int .i64 size,.slice a n n,x2,x3]:=Zek
 obtain rfl:x3= .int .i64 c:=um
 have PL:=hi.1;have uW:=hi.2.1;have uO:=Za PL;have HFo:=Za uW;clear PL uW;have HI:=Za hi;have HX:=Za bx;clear hi bx;obtain ⟨n1,Hi,hn00⟩ : ∃n1:Nat,(if(need:Int)< 2*(n:Int) then 2*(n:Int) else(need:Int))=(n1:Int)/\need<=n1:=Zeu
 obtain ⟨n',bO,fJ,hn3⟩ : ∃n':Nat,(if(n1:Int)< (size:Int) then(n1:Int) else(size:Int))=(n':Int)/\need<=n'/\n'<=size:=Zes
 have dY:=Za Hi;have HN:=Za bO;clear bO Hi;have hT:(Tryz.prog.info? 116).map (fun i=>(i.zero,i.size,i.bytes))=some (some (.agg #[.int .i64 0,.int .i64 0]),2,16):=ZC;obtain ⟨i0,MH,BK,By,Nb⟩:=info_parts hT;have Eu:=fun W=>Jc (P:=Zb) 25 116 i0 _ underlying25 MH BK .i64 .i64 n' n' (Zh _) Pu Zf W
 rw [By] at Eu;have hDo: ∀v ∈ (madeCells (Yi (.agg #[.int .i64 0,.int .i64 0])) (n'*2)).toList,v.oneCell'=true:=O5 YW YW _;have DS:(madeCells (Yi (.agg #[.int .i64 0,.int .i64 0])) (n'*2)).toList.length=n'*2:=Ce
 have qL:(madeCells (Yi (.agg #[.int .i64 0,.int .i64 0])) (n'*2))=((madeCells (Yi (.agg #[.int .i64 0,.int .i64 0])) (n'*2)).toList).toArray:=ZE;generalize madeCells (Yi (.agg #[.int .i64 0,.int .i64 0])) (n'*2)=D0 at*;generalize D0.toList=D at*;subst qL;have RZ:=Za DS;have HDo:=Za hDo;clear hT MH BK By Nb i0 hDo DS;go_enter func190,ntmps190;go_wp2;refine GL 13 ?_;refine GM ?_
 repeat (go_big_quiet_step (fail))
 try rw [C9]
 rw [dY.o];try rw [RR]
 rw [HN.o];refine XK ?_;intro _ Jq;obtain ⟨nr,Y9⟩:=Jq;subst Y9;go_wp2_with fail;refine (NV b _ size c n' n' go D F _ (Gn (S:=fun _=>False) HI.o (((ZM _ w).drewN nr).alloc _) (fun _ _ h=>h)) (Zt _ _ _) RZ.o Zf Zf Zf (fun e=>by have:=bK _ e; simp at this)).mono ?_;rintro e w1 ⟨rfl,Et,bF,At⟩;have L4: ¬b=w.heap.size:=Zf;have DO:Zl (Zu w1 w.heap.size 116 (F++D.drop F.length).toArray):=Za Et;have WE:Zx (fun i=>i=w.heap.size) w w1:=(((ZM _ w).drewN nr).alloc _).trans bF (fun _ _ h=>h);have Pz:=Za WE;have ej:Zl (Zu w1 b 151 #[.int .i64 size,Yj a n n,x2,.int .i64 c]):=Za (HX.o.kept WE L4);exact Zhx
theorem Tv (b size c need:Nat)(go:Option Nat)(F:List Zk)(w:Zc)(hi:Yv 151 116 2 w b go size c F)(h1:1<=need)(SP:c<=need)(Lb:need<=size) :
  Zv Zb 190 #[.pointer (some ⟨b,0,none⟩),.int .i64 need] w fun e w'=>e= .returned (.tuple #[])/\
   ∃g n f C,QX 151 116 2 w' b g size n f c C/\QF C (f*2) F/\need<=n/\UI w go (some g)/\Zx (fun i=>i=b) w w':=by
 have Mu:=hi;obtain ⟨hF,hF1,⟨rfl,rfl,h3⟩ | ⟨g,n,f,C,rfl,h3,h4⟩⟩:=hi
 ·exact (FU b size 0 need 0 none none F w Mu h3.cells.2.1 Zf Zf SP Lb).mono fun e w' ⟨he,n',C,k1,k2,k3,k4⟩=>
   ⟨he,_,n',0,C,k1,by rw [Jw]; exact k2,k3,fun i hi=> .inr Pn,k4⟩
 ·by_cases hn:need<=n
  ·have c1:=h3.cells.2.1;have H3:=Za h3;have H4:=Za h4;have OW:=h3.2.2.2.2.2;clear h3 h4 Mu hF hF1;go_enter func190,ntmps190;exact Zet
  ·have OW:=h3.2.2.2.2.2.1;exact (FU b size c need n _ (some g) F w Mu h3.cells.2.1 Zf OW SP Lb).mono fun e w' ⟨he,n',C,k1,k2,k3,k4⟩=>
    ⟨he,_,n',0,C,k1,by rw [Jw]; exact k2,k3,fun i hi=> .inr Pn,k4⟩
end
section
open Go.RowKit
theorem Io (b size c:Nat)(w:Zc)(a:Option Addr)(len cap:Nat)(hl:len<=9223372036854775807)(h0:w.cell? ⟨b,0,none⟩=some (.int .i64 size))(h3:w.cell? ⟨b,3,none⟩=some (.int .i64 c))(hs:size<=1048576)(hc:c<=size)(hz:len=0\/c=size) :
  Xb 133 #[.pointer (some ⟨b,0,none⟩),.slice a len cap] w (.int .i64 0):=by
 obtain ⟨d,hd⟩ : ∃d:Nat,size - c=d:=⟨_,rfl⟩;have hf: ∀W:Zc,Zl (W=w)->Xb 189 #[.pointer (some ⟨b,0,none⟩)] W (.int .i64 d):=fun W hW=>by
  have hW:=hW.o;subst hW;rw [<-hd];exact PX b size c _ h0 h3 hs hc
 have HF:=Za hf;clear hf h0 h3
 by_cases h:(d:Int)< (len:Int)
 ·obtain rfl:d=0:=Zf;exact Zh6
 ·obtain rfl:len=0:=Zf;exact Zh6
theorem Im (b size c m len cap:Nat)(go:Option Nat)(ad:Addr)(F cs:List Zk)(w:Zc)(hi:Yv 151 116 2 w b go size c F)(Ed:Src w (QU b go) (some ad) len 2 cs)
  (hl:len<=cap) (Uz:cap<=9223372036854775807) (hm:1<=m) (mD:m<=len) (ee:c+m<=size) (hm3:m=len\/c+m=size) :
  Zv Zb 133 #[.pointer (some ⟨b,0,none⟩),.slice (some ad) len cap] w fun e w'=>e= .returned (.int .i64 m)/\
   ∃go',Yv 151 116 2 w' b go' size (c+m) (F++cs.take (m*2))/\UI w go go'/\Zx (QU b go) w w':=by
 obtain ⟨c0,c3⟩:=hi.cells;obtain ⟨_,bR,hs⟩:=hi.size_le;obtain ⟨d,hd⟩ : ∃d:Nat,size - c=d:=⟨_,rfl⟩;have hf: ∀W:Zc,Zl (W=w)->Xb 189 #[.pointer (some ⟨b,0,none⟩)] W (.int .i64 d):=fun W hW=>by
  have hW:=hW.o;subst hW;rw [<-hd];exact PX b size c _ c0 c3 hs Zf
 have HF:=Za hf;have HI:=Za hi;have oZ:=Za Ed;have hmz:((m:Int)==0)=false:=Xl;have c3': ∀q,(w.drewN q).cell? ⟨b,3,none⟩=some (.int .i64 c):=fun q=>c3
 have xi:d+c<=size:=Zf;have qX:size<=d+c:=Zf;clear hf hi Ed c0 hd;have key: ∀q:Nat,Zv Zb 190 #[.pointer (some ⟨b,0,none⟩),.int .i64 ((c:Int)+(m:Int))] (w.drewN q) fun e w'=>e= .returned (.tuple #[])/\
   ∃g n f C,QX 151 116 2 w' b g size n f c C/\QF C (f*2) F/\c+m<=n/\UI w go (some g)/\Zx (fun i=>i=b) w w':=fun q=>by
  have:=Tv b size c (c+m) go F (w.drewN q) HI.o Zf Zf ee;rw [show ((c+m:Nat) :Int)=(c:Int)+(m:Int) by omega] at this;exact this.mono fun e w' ⟨he,g,n,f,C,k1,k2,k3,k4,k5⟩=>⟨he,g,n,f,C,k1,k2,k3,k4,((ZM _ w).drewN q).trans k5 (fun _ _ h=>h)⟩
 have KEY:=Za key;clear key;have hT:(Tryz.prog.info? 116).map (·.size)=some 2:=ZC;have HT:=Za hT;clear hT
 by_cases h:(d:Int)< (len:Int)
 ·obtain rfl:m=d:=Zf;exact zT2
 ·obtain rfl:m=len:=Zf;exact zT2
theorem PZ (b size c len cap:Nat)(go:Option Nat)(a:Option Addr)(F cs:List Zk)(w:Zc)(hi:Yv 151 116 2 w b go size c F)(Ed:Src w (QU b go) a len 2 cs)
  (hl:len<=cap) (Uz:cap<=9223372036854775807) :
  Zv Zb 133 #[.pointer (some ⟨b,0,none⟩),.slice a len cap] w fun e w'=>e= .returned (.int .i64 ((min len (size - c) :Nat) :Int))/\
   ∃go',Yv 151 116 2 w' b go' size (c+min len (size - c)) (F++cs.take (min len (size - c)*2))/\UI w go go'/\Zx (QU b go) w w':=by
 obtain ⟨h1,h2,h3⟩:=hi.size_le
 by_cases hz:min len (size - c)=0
 ·rw [hz];refine (Io b size c w a len cap Zf hi.cells.1 hi.cells.2 h3 h1 Zf).mono fun e w' ⟨he,m,hm⟩=>⟨he,go,?_,fun i h=> .inl h,by subst hm; exact (ZM _ _).drewN _⟩
  subst hm;simpa using hi.drewN m
 ·obtain ⟨ad,rfl,_⟩:=Ed.2.2 Zf;have:=Im b size c (min len (size - c)) len cap go ad F cs w hi Ed hl Uz Zf Zf Zf Zf;exact uk
end
section
open Go.RowKit
theorem de (s:Nat)(w:Zc)(h:1<=s)(h2:s<=1048576) :
  Zv Zb 83 #[.int .i64 s] w fun e w'=>e= .returned (.pointer (some ⟨w.heap.size,0,none⟩))/\w.alloc (.cells #[.int .i64 s,.slice none 0 0,.int .i64 0,.int .i64 0] 154)=w':=by
 have h0: ¬(s:Int)< 1:=Zf;have h3: ¬(1048576:Int)< (s:Int):=Zf;go_enter func83,ntmps83;exact Uu
theorem TH (b:Nat)(c:Int)(w:Zc)(h:w.cell? ⟨b,3,none⟩=some (.int .i64 c)) :
  YV 274 #[.pointer (some ⟨b,0,none⟩)] w (.int .i64 c):=by
 go_enter func274,ntmps274;exact Uu
theorem P3 (b:Nat)(s c:Nat)(w:Zc)(h0:w.cell? ⟨b,0,none⟩=some (.int .i64 s))(h3:w.cell? ⟨b,3,none⟩=some (.int .i64 c))(hs:s<=1048576)(hc:c<=s) :
  Xb 194 #[.pointer (some ⟨b,0,none⟩)] w (.int .i64 ((s - c:Nat) :Int)):=by
 go_enter func194,ntmps194;exact tW
theorem Lx (b n f i:Nat)(a:Option Addr)(cap:Nat)(w:Zc)(h1:w.cell? ⟨b,1,none⟩=some (.slice a n cap))(h2:w.cell? ⟨b,2,none⟩=some (.int .i64 f))(hn:0 < n)(hf:f<=1048576)(hi:i<=1048576) :
  Xb 196 #[.pointer (some ⟨b,0,none⟩),.int .i64 i] w (.int .i64 (((f+i)%n:Nat) :Int)):=by
 have hz:((n:Int)==0)=false:=Xl;go_enter func196,ntmps196;exact tX
end
section
open Go.RowKit
theorem TG (b g h size n f c m cap:Nat)(C D F:List Zk)(w:Zc)(hi:QX 154 119 2 w b g size n f c C)(hw:QF C (f*2) F)(hF:F.length=c*2)(h1: ∀v ∈ F,v.oneCell'=true)
  (hD:Zu w h 119 D.toArray) (DS:D.length=m*2) (uZ:c<=m) (fI:m<=cap) (Uz:cap<=1048576) (jO:h≠g) :
  Zv Zb 96 #[.pointer (some ⟨b,0,none⟩),.slice (some ⟨h,0,none⟩) m cap] w fun e w'=>e= .returned (.tuple #[])/\Zu w' h 119 (F++D.drop F.length).toArray/\Zx (fun i=>i=h) w w'/\w'.heap.size=w.heap.size:=by
 obtain ⟨c0,c1,c2,c3,-,-,-⟩:=hi.cells;obtain ⟨B1,B2,hC,Wu,SP,OW,hs⟩:=hi;have DO:=Za B1;have Gv:=Za B2;have HD:=Za hD;have RZ:=Za DS;have HF:=Za hF;have HC:=Za hC;have H1:=Za h1;clear B1 B2 hD DS hF hC h1;have hw:QF C (f*2) F:=ui
 have HW:=Za hw;have hT:(Tryz.prog.info? 119).map (·.size)=some 2:=ZC;obtain ⟨u,hu1,hu2,hu3⟩ : ∃u,u<=c/\f+u<=n/\(u=c\/f+u=n):=tJ
 have HT:=Za hT;clear hw hT
 by_cases hfc:f+c<=n
 ·have hle:((f:Int)+(c:Int))<=(n:Int):=Zf;obtain rfl:u=c:=Zf;go_enter func96,ntmps96;go_wp2;go_quiet (fail);go_wp2;refine GL 11 ?_;refine GM ?_
  repeat (go_big_quiet_step (fail))
  refine XK ?_;intro _ Jq;obtain ⟨nr,Y9⟩:=Jq;subst Y9;have l1:(F.take (u*2)).length=u*2:=Cg
  refine Y1 rfl (.tmp 21) (.tmp 31) _ _ rfl 119 underlying26 2 Zf HT.o _ _ _ _ _ _ rfl rfl h 0 D 119 HD.o (F.take (u*2)) u Pp l1
   (fun _=>⟨rfl,_,rfl,Mb Gv.o HW.o DC⟩) Pr (fun v hv=>H1.o v (ZQ hv)) ?_
  intro W1 HD1 K1 S1;have L4: ¬b=h:=Js DO.o HD.o YW;have d1:=K1.cell (p:=⟨b,1,none⟩) L4 FM;have d3:=K1.cell (p:=⟨b,3,none⟩) L4 FL;have lq:=Za l1;have Oy:=Za S1;have Nh:=Za K1;have ai:Zl (Zu W1 g 119 C.toArray):=Za (QG (w:=(w.drewN nq).drewN nr) Gv.o K1 (Q0 jO));clear l1 S1 K1 c1 c3;go_wp2;refine GL 14 ?_;refine GM ?_
  repeat (go_big_quiet_step (fail))
  refine XK ?_;intro _ Jq;obtain ⟨ns,Y9⟩:=Jq;subst Y9;refine Y1 rfl (.tmp 35) (.tmp 46) _ _ rfl 119 underlying26 2 Zf HT.o _ _ _ _ _ _ rfl rfl h (u*2) _ 119 HD1.o (F.drop (u*2)) 0 FJ Po
   (fun h0=>by have:=HF.o; simp at h0; omega) Cd (fun v hv=>H1.o v (Xc hv)) ?_
  exact Zhz
 ·have hle: ¬((f:Int)+(c:Int))<=(n:Int):=Zf;have XV:(n:Int)< (f:Int)+(c:Int):=Zf;obtain rfl:n=f+u:=Zf;go_enter func96,ntmps96;go_wp2;go_quiet (fail);go_wp2;refine GL 11 ?_;refine GM ?_
  repeat (go_big_quiet_step (fail))
  refine XK ?_;intro _ Jq;obtain ⟨nr,Y9⟩:=Jq;subst Y9;have l1:(F.take (u*2)).length=u*2:=Cg
  refine Y1 rfl (.tmp 21) (.tmp 31) _ _ rfl 119 underlying26 2 Zf HT.o _ _ _ _ _ _ rfl rfl h 0 D 119 HD.o (F.take (u*2)) u Pp l1
   (fun _=>⟨rfl,_,rfl,Mb Gv.o HW.o DC⟩) Pr (fun v hv=>H1.o v (ZQ hv)) ?_
  intro W1 HD1 K1 S1;have L4: ¬b=h:=Js DO.o HD.o YW;have d1:=K1.cell (p:=⟨b,1,none⟩) L4 FM;have d3:=K1.cell (p:=⟨b,3,none⟩) L4 FL;have lq:=Za l1;have Oy:=Za S1;have Nh:=Za K1;have ai:Zl (Zu W1 g 119 C.toArray):=Za (QG (w:=(w.drewN nq).drewN nr) Gv.o K1 (Q0 jO));clear l1 S1 K1 c1 c3;go_wp2;refine GL 14 ?_;refine GM ?_
  repeat (go_big_quiet_step (fail))
  refine XK ?_;intro _ Jq;obtain ⟨ns,Y9⟩:=Jq;subst Y9;have e:C.length -(f*2)=(u*2):=DC;have hx:=TE ai.o HW.o;rw [e] at hx;refine Y1 rfl (.tmp 35) (.tmp 46) _ _ rfl 119 underlying26 2 Zf HT.o _ _ _ _ _ _ rfl rfl h (u*2) _ 119 HD1.o (F.drop (u*2)) (c - u) jf Po
   (fun _=>⟨rfl,_,rfl,hx⟩) Cd (fun v hv=>H1.o v (Xc hv)) ?_
  clear hx e;exact Zhz
end
section
open Go.RowKit
theorem TF (b h size m cap:Nat)(D:List Zk)(w:Zc)(hi:BN 154 w b size)
  (hD:Zu w h 119 D.toArray) (DS:D.length=m*2) (fI:m<=cap) (Uz:cap<=1048576) :
  Zv Zb 96 #[.pointer (some ⟨b,0,none⟩),.slice (some ⟨h,0,none⟩) m cap] w fun e w'=>e= .returned (.tuple #[])/\Zu w' h 119 D.toArray/\Zx (fun i=>i=h) w w'/\w'.heap.size=w.heap.size:=by
 obtain ⟨c0,c1,c2,c3,-,-,-⟩:=hi.cells;obtain ⟨B1,bR,hs⟩:=hi;have DO:=Za B1;have HD:=Za hD;have RZ:=Za DS;clear B1 hD DS;have hT:(Tryz.prog.info? 119).map (·.size)=some 2:=ZC;have HT:=Za hT;clear hT;go_enter func96,ntmps96;go_wp2;go_quiet (fail);go_wp2;refine GL 11 ?_;refine GM ?_
 repeat (go_big_quiet_step (fail))
 refine XK ?_;intro _ Jq;obtain ⟨nr,Y9⟩:=Jq;subst Y9;refine Y1 rfl (.tmp 21) (.tmp 31) _ _ rfl 119 underlying26 2 Zf HT.o _ _ _ _ _ _ rfl rfl h 0 D 119 HD.o [] 0 FJ rfl
  (fun h0=>by simp at h0) ZE (fun v hv=>by simp at hv) ?_
 intro W1 HD1 K1 S1;have L4: ¬b=h:=Js DO.o HD.o YW;have d1:=K1.cell (p:=⟨b,1,none⟩) L4 FM;have d3:=K1.cell (p:=⟨b,3,none⟩) L4 FL;have Oy:=Za S1;have Nh:=Za K1;clear S1 K1 c1 c3;go_wp2;refine GL 14 ?_;refine GM ?_
 repeat (go_big_quiet_step (fail))
 refine XK ?_;intro _ Jq;obtain ⟨ns,Y9⟩:=Jq;subst Y9;refine Y1 rfl (.tmp 35) (.tmp 46) _ _ rfl 119 underlying26 2 Zf HT.o _ _ _ _ _ _ rfl rfl h 0 _ 119 HD1.o [] 0 FJ rfl
  (fun h0=>by simp at h0) ZE (fun v hv=>by simp at hv) ?_
 intro W2 HD2 K2 S2;have Vx:Zu W2 h 119 D.toArray/\Zx (fun i=>i=h) w W2/\W2.heap.size=w.heap.size:=Zeq
 exact tO
theorem N7 (b h size c m cap:Nat)(go:Option Nat)(D F:List Zk)(w:Zc)(hi:Yv 154 119 2 w b go size c F)
  (hD:Zu w h 119 D.toArray) (DS:D.length=m*2) (uZ:c<=m) (fI:m<=cap) (Uz:cap<=1048576) (jO:go≠some h) :
  Zv Zb 96 #[.pointer (some ⟨b,0,none⟩),.slice (some ⟨h,0,none⟩) m cap] w fun e w'=>e= .returned (.tuple #[])/\Zu w' h 119 (F++D.drop F.length).toArray/\Zx (fun i=>i=h) w w'/\w'.heap.size=w.heap.size:=by
 obtain ⟨h1,h2,⟨rfl,rfl,h3⟩ | ⟨g,n,f,C,rfl,h3,h4⟩⟩:=hi
 ·obtain rfl:F=[]:=ZR QQ;have:=TF b h size m cap D w h3 hD DS fI Uz;exact Bt
 ·exact TG b g h size n f c m cap C D F w h3 h4 h1 h2 hD DS uZ fI Uz (fun e=>jO Er)
theorem FW (b size c need n:Nat)(a:Option Addr)(go:Option Nat)(F:List Zk)(w:Zc)(hi:Yv 154 119 2 w b go size c F)(c1:w.cell? ⟨b,1,none⟩=some (.slice a n n))(hn:n < need)(OW:n<=size)(SP:c<=need)(Lb:need<=size) :
  Zv Zb 195 #[.pointer (some ⟨b,0,none⟩),.int .i64 need] w fun e w'=>e= .returned (.tuple #[])/\
   ∃n' C,QX 154 119 2 w' b w.heap.size size n' 0 c C/\QF C 0 F/\need<=n'/\Zx (fun i=>i=b) w w':=by
 obtain ⟨c0,c3⟩:=hi.cells;obtain ⟨_,bR,hs⟩:=hi.size_le;have bK: ∀i,go=some i->i < w.heap.size:=fun i e=>hi.lt i (.inr e.symm)
 have NC:b < w.heap.size:=hi.lt b (.inl rfl);obtain ⟨x2,x3,bx⟩ : ∃x2 x3,Zu w b 154 #[.int .i64 size,.slice a n n,x2,x3]:=Zek
 obtain rfl:x3= .int .i64 c:=um
 have PL:=hi.1;have uW:=hi.2.1;have uO:=Za PL;have HFo:=Za uW;clear PL uW;have HI:=Za hi;have HX:=Za bx;clear hi bx;obtain ⟨n1,Hi,hn00⟩ : ∃n1:Nat,(if(need:Int)< 2*(n:Int) then 2*(n:Int) else(need:Int))=(n1:Int)/\need<=n1:=Zeu
 obtain ⟨n',bO,fJ,hn3⟩ : ∃n':Nat,(if(n1:Int)< (size:Int) then(n1:Int) else(size:Int))=(n':Int)/\need<=n'/\n'<=size:=Zes
 have dY:=Za Hi;have HN:=Za bO;clear bO Hi;have hT:(Tryz.prog.info? 119).map (fun i=>(i.zero,i.size,i.bytes))=some (some (.agg #[.int .i64 0,.int .u64 0]),2,16):=ZC;obtain ⟨i0,MH,BK,By,Nb⟩:=info_parts hT;have Eu:=fun W=>Jc (P:=Zb) 26 119 i0 _ underlying26 MH BK .i64 .i64 n' n' (Zh _) Pu Zf W
 rw [By] at Eu;have hDo: ∀v ∈ (madeCells (Yi (.agg #[.int .i64 0,.int .u64 0])) (n'*2)).toList,v.oneCell'=true:=O5 YW YW _;have DS:(madeCells (Yi (.agg #[.int .i64 0,.int .u64 0])) (n'*2)).toList.length=n'*2:=Ce
 have qL:(madeCells (Yi (.agg #[.int .i64 0,.int .u64 0])) (n'*2))=((madeCells (Yi (.agg #[.int .i64 0,.int .u64 0])) (n'*2)).toList).toArray:=ZE;generalize madeCells (Yi (.agg #[.int .i64 0,.int .u64 0])) (n'*2)=D0 at*;generalize D0.toList=D at*;subst qL;have RZ:=Za DS;have HDo:=Za hDo;clear hT MH BK By Nb i0 hDo DS;go_enter func195,ntmps195;go_wp2;refine GL 13 ?_;refine GM ?_
 repeat (go_big_quiet_step (fail))
 try rw [C9]
 rw [dY.o];try rw [RR]
 rw [HN.o];refine XK ?_;intro _ Jq;obtain ⟨nr,Y9⟩:=Jq;subst Y9;go_wp2_with fail;refine (N7 b _ size c n' n' go D F _ (Gn (S:=fun _=>False) HI.o (((ZM _ w).drewN nr).alloc _) (fun _ _ h=>h)) (Zt _ _ _) RZ.o Zf Zf Zf (fun e=>by have:=bK _ e; simp at this)).mono ?_;rintro e w1 ⟨rfl,Et,bF,At⟩;have L4: ¬b=w.heap.size:=Zf;have DO:Zl (Zu w1 w.heap.size 119 (F++D.drop F.length).toArray):=Za Et;have WE:Zx (fun i=>i=w.heap.size) w w1:=(((ZM _ w).drewN nr).alloc _).trans bF (fun _ _ h=>h);have Pz:=Za WE;have ej:Zl (Zu w1 b 154 #[.int .i64 size,Yj a n n,x2,.int .i64 c]):=Za (HX.o.kept WE L4);exact Zhx
theorem TI (b size c need:Nat)(go:Option Nat)(F:List Zk)(w:Zc)(hi:Yv 154 119 2 w b go size c F)(h1:1<=need)(SP:c<=need)(Lb:need<=size) :
  Zv Zb 195 #[.pointer (some ⟨b,0,none⟩),.int .i64 need] w fun e w'=>e= .returned (.tuple #[])/\
   ∃g n f C,QX 154 119 2 w' b g size n f c C/\QF C (f*2) F/\need<=n/\UI w go (some g)/\Zx (fun i=>i=b) w w':=by
 have Mu:=hi;obtain ⟨hF,hF1,⟨rfl,rfl,h3⟩ | ⟨g,n,f,C,rfl,h3,h4⟩⟩:=hi
 ·exact (FW b size 0 need 0 none none F w Mu h3.cells.2.1 Zf Zf SP Lb).mono fun e w' ⟨he,n',C,k1,k2,k3,k4⟩=>
   ⟨he,_,n',0,C,k1,by rw [Jw]; exact k2,k3,fun i hi=> .inr Pn,k4⟩
 ·by_cases hn:need<=n
  ·have c1:=h3.cells.2.1;have H3:=Za h3;have H4:=Za h4;have OW:=h3.2.2.2.2.2;clear h3 h4 Mu hF hF1;go_enter func195,ntmps195;exact Zet
  ·have OW:=h3.2.2.2.2.2.1;exact (FW b size c need n _ (some g) F w Mu h3.cells.2.1 Zf OW SP Lb).mono fun e w' ⟨he,n',C,k1,k2,k3,k4⟩=>
    ⟨he,_,n',0,C,k1,by rw [Jw]; exact k2,k3,fun i hi=> .inr Pn,k4⟩
end
section
open Go.RowKit
theorem Iy (b size c:Nat)(w:Zc)(a:Option Addr)(len cap:Nat)(hl:len<=9223372036854775807)(h0:w.cell? ⟨b,0,none⟩=some (.int .i64 size))(h3:w.cell? ⟨b,3,none⟩=some (.int .i64 c))(hs:size<=1048576)(hc:c<=size)(hz:len=0\/c=size) :
  Xb 135 #[.pointer (some ⟨b,0,none⟩),.slice a len cap] w (.int .i64 0):=by
 obtain ⟨d,hd⟩ : ∃d:Nat,size - c=d:=⟨_,rfl⟩;have hf: ∀W:Zc,Zl (W=w)->Xb 194 #[.pointer (some ⟨b,0,none⟩)] W (.int .i64 d):=fun W hW=>by
  have hW:=hW.o;subst hW;rw [<-hd];exact P3 b size c _ h0 h3 hs hc
 have HF:=Za hf;clear hf h0 h3
 by_cases h:(d:Int)< (len:Int)
 ·obtain rfl:d=0:=Zf;exact Zh7
 ·obtain rfl:len=0:=Zf;exact Zh7
theorem Ix (b size c m len cap:Nat)(go:Option Nat)(ad:Addr)(F cs:List Zk)(w:Zc)(hi:Yv 154 119 2 w b go size c F)(Ed:Src w (QU b go) (some ad) len 2 cs)
  (hl:len<=cap) (Uz:cap<=9223372036854775807) (hm:1<=m) (mD:m<=len) (ee:c+m<=size) (hm3:m=len\/c+m=size) :
  Zv Zb 135 #[.pointer (some ⟨b,0,none⟩),.slice (some ad) len cap] w fun e w'=>e= .returned (.int .i64 m)/\
   ∃go',Yv 154 119 2 w' b go' size (c+m) (F++cs.take (m*2))/\UI w go go'/\Zx (QU b go) w w':=by
 obtain ⟨c0,c3⟩:=hi.cells;obtain ⟨_,bR,hs⟩:=hi.size_le;obtain ⟨d,hd⟩ : ∃d:Nat,size - c=d:=⟨_,rfl⟩;have hf: ∀W:Zc,Zl (W=w)->Xb 194 #[.pointer (some ⟨b,0,none⟩)] W (.int .i64 d):=fun W hW=>by
  have hW:=hW.o;subst hW;rw [<-hd];exact P3 b size c _ c0 c3 hs Zf
 have HF:=Za hf;have HI:=Za hi;have oZ:=Za Ed;have hmz:((m:Int)==0)=false:=Xl;have c3': ∀q,(w.drewN q).cell? ⟨b,3,none⟩=some (.int .i64 c):=fun q=>c3
 have xi:d+c<=size:=Zf;have qX:size<=d+c:=Zf;clear hf hi Ed c0 hd;have key: ∀q:Nat,Zv Zb 195 #[.pointer (some ⟨b,0,none⟩),.int .i64 ((c:Int)+(m:Int))] (w.drewN q) fun e w'=>e= .returned (.tuple #[])/\
   ∃g n f C,QX 154 119 2 w' b g size n f c C/\QF C (f*2) F/\c+m<=n/\UI w go (some g)/\Zx (fun i=>i=b) w w':=fun q=>by
  have:=TI b size c (c+m) go F (w.drewN q) HI.o Zf Zf ee;rw [show ((c+m:Nat) :Int)=(c:Int)+(m:Int) by omega] at this;exact this.mono fun e w' ⟨he,g,n,f,C,k1,k2,k3,k4,k5⟩=>⟨he,g,n,f,C,k1,k2,k3,k4,((ZM _ w).drewN q).trans k5 (fun _ _ h=>h)⟩
 have KEY:=Za key;clear key;have hT:(Tryz.prog.info? 119).map (·.size)=some 2:=ZC;have HT:=Za hT;clear hT
 by_cases h:(d:Int)< (len:Int)
 ·obtain rfl:m=d:=Zf;exact zT3
 ·obtain rfl:m=len:=Zf;exact zT3
theorem P5 (b size c len cap:Nat)(go:Option Nat)(a:Option Addr)(F cs:List Zk)(w:Zc)(hi:Yv 154 119 2 w b go size c F)(Ed:Src w (QU b go) a len 2 cs)
  (hl:len<=cap) (Uz:cap<=9223372036854775807) :
  Zv Zb 135 #[.pointer (some ⟨b,0,none⟩),.slice a len cap] w fun e w'=>e= .returned (.int .i64 ((min len (size - c) :Nat) :Int))/\
   ∃go',Yv 154 119 2 w' b go' size (c+min len (size - c)) (F++cs.take (min len (size - c)*2))/\UI w go go'/\Zx (QU b go) w w':=by
 obtain ⟨h1,h2,h3⟩:=hi.size_le
 by_cases hz:min len (size - c)=0
 ·rw [hz];refine (Iy b size c w a len cap Zf hi.cells.1 hi.cells.2 h3 h1 Zf).mono fun e w' ⟨he,m,hm⟩=>⟨he,go,?_,fun i h=> .inl h,by subst hm; exact (ZM _ _).drewN _⟩
  subst hm;simpa using hi.drewN m
 ·obtain ⟨ad,rfl,_⟩:=Ed.2.2 Zf;have:=Ix b size c (min len (size - c)) len cap go ad F cs w hi Ed hl Uz Zf Zf Zf Zf;exact uk
end
section
open Go.RowKit
theorem gY (b size c:Nat)(go:Option Nat)(F:List Zk)(w:Zc)(hi:Yv 151 116 2 w b go size c F) :
  Zv Zb 47 #[.pointer (some ⟨b,0,none⟩)] w fun e w'=>e= .returned (.slice (some ⟨w.heap.size,0,none⟩) c c)/\Zu w' w.heap.size 116 F.toArray/\Zp w.heap.size w w':=by
 obtain ⟨c0,c3⟩:=hi.cells;obtain ⟨EY,bR,hs⟩:=hi.size_le;have bK: ∀i,go=some i->i < w.heap.size:=fun i e=>hi.lt i (.inr e.symm)
 have PL:=hi.1;have uO:=Za PL;have HI:=Za hi;clear hi PL;have hT:(Tryz.prog.info? 116).map (fun i=>(i.zero,i.size,i.bytes))=some (some (.agg #[.int .i64 0,.int .i64 0]),2,16):=ZC;obtain ⟨i0,MH,BK,By,Nb⟩:=info_parts hT;have Eu:=fun W=>Jc (P:=Zb) 25 116 i0 _ underlying25 MH BK .i64 .i64 c c (Zh _) Pu Zf W
 rw [By] at Eu;have DS:(madeCells (Yi (.agg #[.int .i64 0,.int .i64 0])) (c*2)).toList.length=c*2:=Ce
 have qL:(madeCells (Yi (.agg #[.int .i64 0,.int .i64 0])) (c*2))=((madeCells (Yi (.agg #[.int .i64 0,.int .i64 0])) (c*2)).toList).toArray:=ZE;generalize madeCells (Yi (.agg #[.int .i64 0,.int .i64 0])) (c*2)=D0 at*;generalize D0.toList=D at*;subst qL;have RZ:=Za DS;clear hT MH BK By Nb i0 DS;go_enter func47,ntmps47;go_wp2_with fail;refine (NV b _ size c c c go D F _ (Gn (S:=fun _=>False) HI.o ((ZM _ w).alloc _) (fun _ _ h=>h)) (Zt _ _ _) RZ.o Zf Zf Zf (fun e=>by have:=bK _ e; simp at this)).mono ?_;rintro e w1 ⟨rfl,Et,bF,At⟩;have Ar:Zu w1 w.heap.size 116 F.toArray:=Zex
 exact Zen
end
section
open Go.RowKit
theorem iv (b size c:Nat)(go:Option Nat)(F:List Zk)(w:Zc)(hi:Yv 154 119 2 w b go size c F) :
  Zv Zb 48 #[.pointer (some ⟨b,0,none⟩)] w fun e w'=>e= .returned (.slice (some ⟨w.heap.size,0,none⟩) c c)/\Zu w' w.heap.size 119 F.toArray/\Zp w.heap.size w w':=by
 obtain ⟨c0,c3⟩:=hi.cells;obtain ⟨EY,bR,hs⟩:=hi.size_le;have bK: ∀i,go=some i->i < w.heap.size:=fun i e=>hi.lt i (.inr e.symm)
 have PL:=hi.1;have uO:=Za PL;have HI:=Za hi;clear hi PL;have hT:(Tryz.prog.info? 119).map (fun i=>(i.zero,i.size,i.bytes))=some (some (.agg #[.int .i64 0,.int .u64 0]),2,16):=ZC;obtain ⟨i0,MH,BK,By,Nb⟩:=info_parts hT;have Eu:=fun W=>Jc (P:=Zb) 26 119 i0 _ underlying26 MH BK .i64 .i64 c c (Zh _) Pu Zf W
 rw [By] at Eu;have DS:(madeCells (Yi (.agg #[.int .i64 0,.int .u64 0])) (c*2)).toList.length=c*2:=Ce
 have qL:(madeCells (Yi (.agg #[.int .i64 0,.int .u64 0])) (c*2))=((madeCells (Yi (.agg #[.int .i64 0,.int .u64 0])) (c*2)).toList).toArray:=ZE;generalize madeCells (Yi (.agg #[.int .i64 0,.int .u64 0])) (c*2)=D0 at*;generalize D0.toList=D at*;subst qL;have RZ:=Za DS;clear hT MH BK By Nb i0 DS;go_enter func48,ntmps48;go_wp2_with fail;refine (N7 b _ size c c c go D F _ (Gn (S:=fun _=>False) HI.o ((ZM _ w).alloc _) (fun _ _ h=>h)) (Zt _ _ _) RZ.o Zf Zf Zf (fun e=>by have:=bK _ e; simp at this)).mono ?_;rintro e w1 ⟨rfl,Et,bF,At⟩;have Ar:Zu w1 w.heap.size 119 F.toArray:=Zex
 exact Zen
end
section
def dw (base i:Nat)(o:Oper) :Bool:=
 (match o.dst with | some d=>Nat.beq d (base+i) | Option.none=>false)&&(match o.guard with | Option.none=>true | some _=>false)&&(match o.op with | .select .. =>false | _=>true)&&
 (o.after.toList.all fun e=>Xd .any e&&Nat.blt e.on i)&&
 (o.op.operands.toList.all fun | .tmp t=>Nat.blt t base||(o.after.toList.any fun e=>Nat.beq (base+e.on) t) | _=>true)
def dG (n:Nat)(o:Oper) :Bool:=
 (match o.op with | .select .. =>false | _=>true)&&(o.after.toList.all fun e=>Xd .any e&&Nat.blt e.on n)&&
 ((List.range n).all fun i=>o.after.toList.any fun e=>Nat.beq e.on i)
def MX (base:Nat) :Nat->List Oper->Bool
 | _,[]=>false
 | i,[o]=>dG i o
 | i,o::o'::rest=>dw base i o&&MX base (i+1) (o'::rest)
theorem P7 {base:Nat} : ∀ {l:List Oper} {s:Nat},MX base s l=true->
  ∃n,l.length=n+1/\(∀i,i < n-> ∃o,l[i]?=some o/\dw base (s+i) o=true)/\ ∃o,l[n]?=some o/\dG (s+n) o=true
 | [],_,h=>by simp [MX] at h
 | [o],s,h=>⟨0,rfl,fun i hi=>by omega,o,rfl,by simpa [MX] using h⟩
 | o::o'::rest,s,h=>by
  simp only [MX,YO] at h;obtain ⟨n,hn,hh,t,ht,htb⟩:=P7 h.2;refine ⟨n+1,by simpa using hn,fun i hi=>?_,t,by simpa using ht,by rw [show s+(n+1)=s+1+n by omega]; exact htb⟩
  rcases i with _ | i
  ·exact ⟨o,rfl,h.1⟩
  ·obtain ⟨x,hx,hxb⟩:=hh i Zf;exact ⟨x,by simpa using hx,by rw [show s+(i+1)=s+1+i by omega]; exact hxb⟩
theorem FC {base i:Nat}{o:Oper}(h:dw base i o=true) :
  o.dst=some (base+i)/\o.guard=Option.none/\(match o.op with | .select .. =>false | _=>true)=true/\(∀e ∈ o.after,Xd .any e=true/\e.on < i)/\
   ∀t:Nat,Operand.tmp t ∈ o.op.operands->t < base\/ ∃e ∈ o.after,base+e.on=t:=by
 simp only [dw,YO] at h;obtain ⟨⟨⟨⟨h1,h2⟩,h3⟩,h4⟩,h5⟩:=h;refine ⟨?_,?_,h3,fun e he=>?_,fun t ht=>?_⟩
 ·cases hd:o.dst with
  | none=>rw [hd] at h1; cases h1
  | some d=>rw [hd] at h1; rw [VN h1]
 ·cases hd:o.guard with
  | none=>rfl
  | some d=>rw [hd] at h2; cases h2
 ·have:=Xh.1 h4 e (by simpa using he);exact Zbe
 ·have:=Xh.1 h5 _ (by simpa using ht);simp only [Bool.or_eq_true] at this
  rcases this with h | h
  ·exact .inl KB
  ·obtain ⟨e,he,hb⟩:=List.any_eq_true.1 h;exact .inr ⟨e,by simpa using he,VN hb⟩
theorem FE {n:Nat}{o:Oper}(h:dG n o=true) :
  (match o.op with | .select .. =>false | _=>true)=true/\(∀e ∈ o.after,Xd .any e=true/\e.on < n)/\ ∀i,i < n-> ∃e ∈ o.after,e.on=i:=by
 simp only [dG,YO] at h;obtain ⟨⟨h1,h2⟩,h3⟩:=h;refine ⟨h1,fun e he=>?_,fun i hi=>?_⟩
 ·have:=Xh.1 h2 e (by simpa using he);exact Zbe
 ·have:=Xh.1 h3 i (by simpa using hi);obtain ⟨e,he,hb⟩:=List.any_eq_true.1 this;exact ⟨e,by simpa using he,VN hb⟩
def GD (m k:Nat)(Zs:Array Bool) :Prop:=Zs.size=m/\ ∀j,j < m->Zs[j]?=some (decide (j < k))
theorem GD.getD {m k:Nat}{Zs:Array Bool}(h:GD m k Zs){j:Nat}(hj:j < m)(b:Bool) :Zs.getD j b=decide (j < k):=by
 rw [Array.getD_eq_getD_getElem?,h.2 j hj]; rfl
theorem GD.set {m k:Nat}{Zs:Array Bool}(h:GD m k Zs)(hk:k < m) :GD m (k+1) (Zs.setIfInBounds k true):=by
 refine ⟨by simpa using h.1,fun j hj=>?_⟩;rw [Array.getElem?_setIfInBounds]
 by_cases e:k=j
 ·subst e; simp [h.1,hk]
 ·rw [if_neg e,h.2 j hj]
  congr 1
  by_cases h1:j < k
  ·simp [h1,show j < k+1 by omega]
  ·simp [h1,show ¬j < k+1 by omega]
theorem GD.start (m:Nat) :GD m 0 (Array.replicate m false):=⟨by simp,fun j hj=>by simp [hj]⟩
def Hm (l:List Oper)(base n:Nat) :Prop:=l.length=n+1/\(∀i,i < n-> ∃o,l[i]?=some o/\dw base i o=true)/\ ∃o,l[n]?=some o/\dG n o=true
section
variable {l:List Oper} {n base:Nat}
theorem gn (hA:Hm l base n){k:Nat}{Zs:Array Bool}(hL:GD (n+1) k Zs)(hk:k < n) :k ∈ Yq .any l.toArray Zs:=by
 obtain ⟨_,hh,_⟩:=hA;obtain ⟨o,ho,hb⟩:=hh k hk;obtain ⟨_,_,_,he,_⟩:=FC hb;refine mem_ready.2 ⟨by rw [hL.getD Zf]; simp,o,by simpa using ho,fun e hm _=>?_⟩;have:=(he e hm).2;rw [hL.getD Zf];exact Bt
theorem mN (hA:Hm l base n){k:Nat}{Zs:Array Bool}(hL:GD (n+1) k Zs)(hk:k < n) :Region.free .any l.toArray Zs k=true:=by
 obtain ⟨hlen,hh,ht⟩:=hA;obtain ⟨o,ho,hb⟩:=hh k hk;obtain ⟨hd,hg,_,he,hop⟩:=FC hb;have ho':l.toArray[k]?=some o:=by simpa using ho
 unfold Region.free;rw [ho'];simp only [Xh,List.mem_range];intro j hj;have Ou:j < n+1:=by simpa [hlen] using hj
 by_cases ED:j=k
 ·simp [ED]
 ·rcases Nat.lt_or_ge j k with h | h
  ·rw [hL.getD Ou]; simp [h]
  ·by_cases Dc:j=n
   ·obtain ⟨t,htn,htb⟩:=ht;obtain ⟨_,h2,h3⟩:=FE htb;obtain ⟨e,oK,hon⟩:=h3 k hk;have:l.toArray[j]?=some t:=by rw [Dc]; simpa using htn
    rw [this];have ha:(t.after.any fun e=>Xd .any e&&e.on==k)=true:=Gc.2 ⟨e,oK,by simp [(h2 e oK).1,hon]⟩;simp [ha]
   ·obtain ⟨x,hx,hxb⟩:=hh j Zf;obtain ⟨xd,xg,_,xe,xop⟩:=FC hxb;have:l.toArray[j]?=some x:=by simpa using hx
    rw [this]
    by_cases hw: ∃e ∈ x.after,e.on=k
    ·obtain ⟨e,oK,hon⟩:=hw;have ha:(x.after.any fun e=>Xd .any e&&e.on==k)=true:=Gc.2 ⟨e,oK,by simp [(xe e oK).1,hon]⟩;simp [ha]
    ·have h1:base+k ∉ x.looksAt l.toArray:=by
      intro hc;simp only [Oper.looksAt,xg,XM,List.mem_filterMap] at hc;obtain ⟨p,hp,I8⟩:=hc
      split at I8
      ·rename_i t
       obtain rfl:=ZL I8
       rcases xop _ (by simpa using hp) with h | ⟨e,oK,hon⟩
       ·omega
       ·exact hw ⟨e,oK,by omega⟩
      ·cases I8
     have h2:base+j ∉ o.looksAt l.toArray:=by
      intro hc;simp only [Oper.looksAt,hg,XM,List.mem_filterMap] at hc;obtain ⟨p,hp,I8⟩:=hc
      split at I8
      ·rename_i t
       obtain rfl:=ZL I8
       rcases hop _ (by simpa using hp) with h | ⟨e,oK,hon⟩
       ·omega
       ·have:=(he e oK).2; omega
      ·cases I8
     have ha:o.apart l.toArray x=true:=by
      unfold Oper.apart;rw [hd,xd];simp [h1,h2];omega
     simp [ha]
theorem Ru (hA:Hm l base n){Zs:Array Bool}(hL:GD (n+1) (n+1) Zs) :Yq .any l.toArray Zs=[]:=by
 obtain ⟨hlen,_,_⟩:=hA;unfold Yq;rw [List.filter_eq_nil_iff];intro i hi;have Mu:i < n+1:=by simpa [hlen] using hi
 rw [hL.getD Mu];simp [Mu]
theorem Rv (hA:Hm l base n){Zs:Array Bool}(hL:GD (n+1) n Zs) :Yq .any l.toArray Zs=[n]:=by
 obtain ⟨hlen,_,ht⟩:=hA;obtain ⟨t,htn,htb⟩:=ht;obtain ⟨_,h2,_⟩:=FE htb;have ht':l.toArray[n]?=some t:=by simpa using htn
 unfold Yq;rw [show l.toArray.size=n+1 by simpa using hlen,List.range_succ,List.filter_append];have hE:((List.range n).filter fun i=>!Zs.getD i true&&((l.toArray[i]?).map (·.after.all fun e=>!Xd .any e||Zs.getD e.on false)).getD false)=[]:=by
  rw [List.filter_eq_nil_iff];intro i hi;have Mu:i < n:=by simpa using hi
  rw [hL.getD (show i < n+1 by omega)];simp [Mu]
 have hB:(!Zs.getD n true&&((l.toArray[n]?).map (·.after.all fun e=>!Xd .any e||Zs.getD e.on false)).getD false)=true:=by
  rw [hL.getD (show n < n+1 by omega),ht'];have:(t.after.all fun e=>!Xd .any e||Zs.getD e.on false)=true:=ZK.2 fun e he=>by
   have:=(h2 e he).2;rw [hL.getD (show e.on < n+1 by omega)];simp [this]
  simp only [Option.map_some,Option.getD_some,this];simp
 rw [hE,List.filter_cons_of_pos (p:=fun i=>!Zs.getD i true&&((l.toArray[i]?).map (·.after.all fun e=>!Xd .any e||Zs.getD e.on false)).getD false) hB];rfl
theorem rO (hA:Hm l base n){Zs:Array Bool}(hL:GD (n+1) n Zs) :JT .any l.toArray 1 n Zs=true:=by
 simp only [JT,YO,decide_eq_true_eq];exact ⟨Rv hA hL,by rw [Ru hA (hL.set Zf)]; rfl⟩
theorem AD (hA:Hm l base n) : ∀(f k:Nat) (Zs:Array Bool),k+f=n->GD (n+1) k Zs->Region.lexHead .any l.toArray 1 f k Zs=true
 | 0,k,Zs,hk,hL=>by
  obtain rfl:k=n:=Zf;exact rO hA hL
 | f+1,k,Zs,hk,hL=>by
  simp only [Region.lexHead,YO];exact ⟨⟨by simpa using gn hA hL Zf,mN hA hL Zf⟩,AD hA f (k+1) _ Zf (hL.set Zf)⟩
theorem WJ (hA:Hm l base n) :X3 l.toArray=true:=by
 obtain ⟨hlen,hh,ht⟩:=hA;unfold X3;refine ZK.2 fun o ho=>?_
 obtain ⟨i,hi⟩:=List.getElem?_of_mem (by simpa using ho:o ∈ l);have Fo:i < n+1:=by
  have:=(List.getElem?_eq_some_iff.1 hi).1;omega
 rcases Nat.lt_or_ge i n with h | h
 ·obtain ⟨x,hx,hb⟩:=hh i h;obtain rfl:x=o:=ZL (hx.symm.trans hi);exact (FC hb).2.2.1
 ·obtain ⟨x,hx,hb⟩:=ht;obtain rfl:i=n:=Zf;obtain rfl:x=o:=ZL (hx.symm.trans hi);exact (FE hb).1
theorem mO (hA:Hm l base n) :Region.sinkB .any l.toArray n=true:=by
 obtain ⟨_,_,ht⟩:=hA;obtain ⟨t,htn,htb⟩:=ht;obtain ⟨_,h2,h3⟩:=FE htb;have ht':l.toArray[n]?=some t:=by simpa using htn
 refine Xh.2 fun i hi=>List.any_eq_true.2 ⟨n,by simp,?_⟩
 have Mu:i < n:=by simpa using hi
 obtain ⟨e,oK,hon⟩:=h3 i Mu;have ha:(t.after.any fun e=>Xd .any e&&e.on==i)=true:=Gc.2 ⟨e,oK,by simp [(h2 e oK).1,hon]⟩;simp only [YO,decide_eq_true_eq];exact ⟨Mu,by unfold Region.waitsFor; rw [ht']; exact ha⟩
end
theorem C4 {l:List Oper}{n base:Nat}(hlen:l.length=n+1)(h:MX base 0 l=true) :VF .any l.toArray n=true:=by
 obtain ⟨m,hm,hh,ht⟩:=P7 h;obtain rfl:m=n:=Zf;simp only [Nat.zero_add] at hh ht;simp only [VF,YO,decide_eq_true_eq];refine ⟨⟨⟨⟨WJ (base:=base) ⟨hm,hh,ht⟩,by simp [hm]⟩,mO (base:=base) ⟨hm,hh,ht⟩⟩,?_⟩,?_⟩
 ·refine Xh.2 fun t h=>?_
  have:t < m+1:=by simpa [hm] using h
  simp [show t<=m by omega]
 ·have hs:l.toArray.size=m+1:=by simpa using hm
  rw [hs,show m+1 - m=1 by omega];exact AD (base:=base) ⟨hm,hh,ht⟩ m 0 _ Zf (GD.start _)
theorem Wj {P:Program}{id:Nat}{Q:Exit->Act->Zc->Prop}{a:Act}{w:Zc}{l:List Oper}{o:Oper}(n base:Nat)(hm:P.follows .mixedOrders=true)(hlen:l.length=n+1)(hB:MX base 0 l=true)
  (hD:l.drop n=[o]) (h: ∀(ops:Array Oper) (W:Zc),W=w.drew->wpStill P ops W (fun a'=>wpList P ops Q [o] a' W) (l.take n) a) :(Code.region id l.toArray true).wp P Q a w:=
 wp_region_still_tail n hm (C4 hlen hB) (by rw [hD]; exact h _ _ rfl)
end
end Go.Proofs.YtobgbcdgffgdhaaGreat
