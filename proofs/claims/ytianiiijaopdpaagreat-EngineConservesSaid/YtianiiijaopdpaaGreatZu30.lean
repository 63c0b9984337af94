/- Part 30 of 58: L08Ints L13Amts. -/
import Derived.Test.YtianiiijaopdpaaGreatZu00
import Derived.Test.YtianiiijaopdpaaGreatZu11
import Derived.Shelf.Slices.Empties2
import Derived.Test.YtianiiijaopdpaaGreatShelf
namespace Go.Proofs.YtianiiijaopdpaaGreat
set_option linter.unusedVariables false
set_option linter.unusedSimpArgs false
set_option maxRecDepth 100000
set_option maxHeartbeats 8000000
open _root_.List renaming eq_nil_of_length_eq_zero → Z3, getD_eq_getElem?_getD → Zq, getElem?_eq_getElem → Zf, getElem?_map → ZR, getElem?_toArray → YY, take_length → UD
open _root_.Nat renaming lt_of_lt_of_le → Yp
open _root_.Go.Proofs.Tryz renaming prog → Zb
open _root_.Go.Value renaming int → ZX
open _root_.Go renaming World → Zc
theorem IK {G:Prop}(h:G:=by rw [List.getElem?_map,List.getD_eq_getElem?_getD,List.getElem?_eq_getElem hj]; rfl) :G:=h
theorem sQ {G:Prop} (h:G:=by
  go_enter Tryz.func277,Tryz.ntmps277;go_wp2;go_ret;exact ⟨by rw [HE.out]; rfl,rfl⟩) :G:=h
section
open Go.RowKit
theorem qP:(Tryz.prog.info? 3).map (fun i=>(i.zero,i.size,i.bytes))=some (some (.int .i64 0),1,8):=by kernel_rfl
def JL (w:Zc)(S:Nat→Prop)(a:Option Addr)(L:List Int) :Prop:=
 0 < L.length→ ∃b off,a=some ⟨b,off,none⟩∧ ¬S b∧b < w.heap.size∧ ∀j,j < L.length→w.cell? ⟨b,off+j,none⟩=some (.int .i64 (L.getD j 0))
section
variable {w w':Zc} {S T:Nat→Prop} {a:Option Addr} {L:List Int}
theorem JL.nil (w:Zc)(S:Nat→Prop)(a:Option Addr) :JL w S a []:=fun h=>by simp at h
theorem JL.kept (h:JL w S a L)(k:Kept T w w')(hT: ∀i,i < w.heap.size→T i→S i) :JL w' S a L:=fun hl=>by
 obtain ⟨b,off,e,hn,hb,hc⟩:=h hl;exact ⟨b,off,e,hn,Yp hb k.size,fun j hj=>k.cell (fun ht=>hn (hT _ hb ht)) (hc j hj)⟩
theorem JL.below (h:JL w S a L)(hb:Below w.heap.size w w') :JL w' S a L:=fun hl=>by
 obtain ⟨b,off,e,hn,Gk,hc⟩:=h hl;exact ⟨b,off,e,hn,Yp Gk hb.size,fun j hj=>(hb.cell (p:=⟨b,off+j,none⟩) Gk).trans (hc j hj)⟩
theorem JL.drewN (h:JL w S a L)(n:Nat) :JL (w.drewN n) S a L:=h
theorem JL.of_blk {g:Nat}{t:TypeId}(h:Zy w g t (L.map (ZX .i64)).toArray)(hn: ¬S g) :JL w S (some ⟨g,0,none⟩) L:=fun hl=>
 ⟨g,0,rfl,hn,h.lt,fun j hj=>by
  rw [Nat.zero_add,h.cell,YY,ZR,Zq,Zf hj];rfl⟩
theorem eK (a1 a2:Option Addr)(n c m d:Nat)(w:Zc)(jk:n≠m) :
  Calls Zb 49 #[.slice a1 n c,.slice a2 m d] w fun e w'=>e= .returned (.bool false)∧w'=w:=Any.slices_Equal_int_lens Tryz.lays111 a1 a2 n c m d w jk
theorem lA {a2:Option Addr}{L2:List Int}{c d n m:Nat}{S2:Nat→Prop}(h1:JL w S a L)(h2:JL w S2 a2 L2)(hn:L.length=n)(hm:L2.length=m)(bn:n≤9223372036854775807)(bm:m≤9223372036854775807) :
  Calls Zb 49 #[.slice a n c,.slice a2 m d] w fun e w'=>e= .returned (.bool (decide (L=L2)))∧ ∃q,w'=w.drewN q:=by
 subst hn hm
 by_cases e:L.length=L2.length
 ·by_cases h0:L.length=0
  ·have x1:L=[]:=Z3 h0;have x2:L2=[]:=Z3 Zp;subst x1 x2;exact (Tryz.slices_Equal_int_empty a a2 c 0 d w Zp).mono fun e w' ⟨he,hw⟩=>⟨by simpa using he,0,hw⟩
  ·obtain ⟨b1,o1,rfl,_,_,c1⟩:=h1 Zp;obtain ⟨b2',o2,rfl,_,_,c2⟩:=h2 Zp;exact (Tryz.slices_Equal_int b1 o1 L.length c b2' o2 L2.length d L L2 w Zp Zp bn bm c1 c2).mono fun e w' ⟨he,hw⟩=>⟨by rw [he,UD,UD]; exact JR (by rw [Bool.eq_iff_iff]; simp),hw⟩
 ·exact (eK a a2 L.length c L2.length d w e).mono fun e' w' ⟨he,hw⟩=>⟨by rw [he]; exact JR (by symm; simp; rintro rfl; exact e rfl),0,hw⟩
theorem eM {a2:Option Addr}{c d n:Nat}{S2:Nat→Prop}(h1:JL w S a L)(h2:JL w S2 a2 L)(hn:L.length=n)(b1:n≤9223372036854775807) :
  Calls Zb 49 #[.slice a n c,.slice a2 n d] w fun e w'=>e= .returned (.bool true)∧ ∃q,w'=w.drewN q:=by
 have:=lA h1 h2 hn hn b1 b1 (c:=c) (d:=d);simpa using this
theorem VK {base n:Nat}{v:Value}(h:w.ownsRow base 3 1 v n (L.map (ZX .i64)))(hS: ∀i,v.ownBlock=some i→ ¬S i) : ∃a cp,v= .slice a n cp∧L.length=n∧n≤cp∧cp≤maxLen∧JL w S a L:=by
 have hl:=h.1;rw [List.length_map,Nat.mul_one] at hl
 rcases h.2 with ⟨rfl,h2⟩ | ⟨g,cp,cur,rfl,h1,h3,h4,h5,h6,h7⟩
 ·subst h2;obtain rfl:=Z3 hl;exact ⟨none,0,rfl,rfl,by omega,by unfold maxLen; omega,JL.nil _ _ _⟩
 ·refine ⟨_,cp,rfl,hl,h4,h5,fun h0=>⟨g,0,rfl,hS g rfl,(Array.getElem?_eq_some_iff.1 h3).1,fun j hj=>?_⟩⟩;have:=h.cells (g:=g) rfl j (.int .i64 (L.getD j 0)) IK;rwa [add_plain] at this
theorem LI: ∃i,Tryz.prog.info? 3=some i∧i.zero=some (.int .i64 0)∧i.size=1∧i.bytes=8:=by
 have h:=qP
 cases hi:Tryz.prog.info? 3 with
 | none=>rw [hi] at h; cases h
 | some i=>
  rw [hi] at h;simp at h;exact ⟨i,rfl,h.1,h.2.1,h.2.2⟩
end
end
section
open Go Go.RowKit Go.Lib
def N9 (w:Zc)(S:Nat→Prop)(a:Option Addr)(L:List Int) :Prop:=
 0 < L.length→ ∃b off,a=some ⟨b,off,none⟩∧ ¬S b∧b < w.heap.size∧ ∀j,j < L.length→w.cell? ⟨b,off+j,none⟩=some (.int .u64 (L.getD j 0))
def LX (L:List Int) :Prop:= ∀j,0≤L.getD j 0∧L.getD j 0≤18446744073709551615
def Kz (L:List Int)(i:Int) :Int:=if 0≤i∧i < (L.length:Int) then L.getD i.toNat 0 else 0
section
variable {w w':Zc} {S T:Nat→Prop} {a:Option Addr} {L:List Int}
theorem N9.nil (w:Zc)(S:Nat→Prop)(a:Option Addr) :N9 w S a []:=fun h=>by simp at h
theorem N9.kept (h:N9 w S a L)(k:Kept T w w')(hT: ∀i,i < w.heap.size→T i→S i) :N9 w' S a L:=fun hl=>by
 obtain ⟨b,off,e,hn,hb,hc⟩:=h hl;exact ⟨b,off,e,hn,Yp hb k.size,fun j hj=>k.cell (fun ht=>hn (hT _ hb ht)) (hc j hj)⟩
theorem N9.below (h:N9 w S a L)(hb:Below w.heap.size w w') :N9 w' S a L:=fun hl=>by
 obtain ⟨b,off,e,hn,Gk,hc⟩:=h hl;exact ⟨b,off,e,hn,Yp Gk hb.size,fun j hj=>(hb.cell (p:=⟨b,off+j,none⟩) Gk).trans (hc j hj)⟩
theorem N9.drewN (h:N9 w S a L)(n:Nat) :N9 (w.drewN n) S a L:=h
theorem N9.of_blk {g:Nat}{t:TypeId}(h:Zy w g t (L.map (ZX .u64)).toArray)(hn: ¬S g) :N9 w S (some ⟨g,0,none⟩) L:=fun hl=>
 ⟨g,0,rfl,hn,h.lt,fun j hj=>by
  rw [Nat.zero_add,h.cell,YY,ZR,Zq,Zf hj];rfl⟩
theorem gU {x:Int}(h:(Lit.int .u64 x).wf=true) :0≤x∧x≤18446744073709551615:=by
 simp [Lit.wf,IntKind.min,IntKind.max,IntKind.signed,IntKind.bits] at h;omega
theorem jR {i:Int}(h:i < 0∨(L.length:Int)≤i) :Kz L i=0:=by rw [Kz,if_neg Zp]
theorem Zdd {k:Nat}(h:k < L.length) :Kz L k=L.getD k 0:=by rw [Kz,if_pos Zp]; simp
theorem NV (h:LX L)(i:Int) :0≤Kz L i∧Kz L i≤18446744073709551615:=by
 unfold Kz
 split
 ·exact h _
 ·exact ⟨by decide,by decide⟩
theorem TJ (cap:Nat)(i:Int)(w:Zc)(h:N9 w S a L)(hl:L.length≤9223372036854775807) :
  Calls Zb 277 #[.slice a L.length cap,.int .i64 i] w fun e w'=>e= .returned (.int .u64 (Kz L i))∧w=w':=by
 by_cases h1:i < 0
 ·have HE:=Lib.hid (jR (L:=L) (.inl h1));exact sQ
 ·by_cases h2:(L.length:Int)≤i
  ·have HE:=Lib.hid (jR (L:=L) (.inr h2));exact sQ
  ·obtain ⟨k,rfl,hk⟩ : ∃k:Nat,i=k∧k < L.length:=⟨i.toNat,by omega,by omega⟩;have he:=Zdd hk;obtain ⟨b,off,rfl,_,_,hc⟩:=h Zp;have Gl:=hc k hk;generalize L.getD k 0=x at Gl he;have HE:=Lib.hid he;clear hc he;exact sQ
end
end
end Go.Proofs.YtianiiijaopdpaaGreat
