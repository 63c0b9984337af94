/- Part 34 of 58: L12Base2 L12Ops L12Acts L12Lists L13Done. -/
import Derived.Test.YtianiiijaopdpaaGreatZu00
import Derived.Test.YtianiiijaopdpaaGreatZu15
import Derived.Test.YtianiiijaopdpaaGreatZu32
namespace Go.Proofs.YtianiiijaopdpaaGreat
set_option linter.unusedVariables false
set_option linter.unusedSimpArgs false
set_option maxRecDepth 100000
set_option maxHeartbeats 8000000
open _root_.Go.RowKit renaming Below → Zt
open _root_.Go.RowKit.Below renaming refl → Zr
open _root_.Go renaming Calls → Zi, World → Zc, rounds_succ → Y2, wp_loop_rounds → Qz
open _root_.Go.Proofs.YtianiiijaopdpaaGreat.Kept renaming of_below → Y4, refl → ZM
open _root_.Go.Lib renaming hid → Za
open _root_.List renaming eq_nil_of_length_eq_zero → Z3, filter_cons → JT, getElem?_eq_getElem → Zf
open _root_.Nat renaming le_refl → Zg
open _root_.Go.Proofs.Tryz renaming prog → Zb, underlying47 → YO
open _root_.Go.Value renaming int → ZX
open _root_.Go.World renaming ownsRow_nil → Xj
theorem N4 {G:Prop}(h:G:=by unfold maxLen; omega) :G:=h
theorem Zgi {G:Prop} (h:G:=by
  go_enter Tryz.func128,Tryz.ntmps128;go_wp2_with fail;refine (has_yes _ _ _ HH.out).mono ?_;rintro e w' ⟨rfl,rfl⟩;go_wp2_with fail;refine HQ.out.mono ?_;rintro e w' ⟨rfl,rfl⟩;go_wp2_with fail;refine HP.out.mono ?_;rintro e w1 ⟨rfl,hq⟩;have HQ:=Lib.hid hq;clear hq HP;go_wp2_with fail;go_ret;exact ⟨rfl,HQ.out⟩) :G:=h
theorem Zgt {G:Prop} (h:G:=by
  refine this.mono ?_;rintro e w' ⟨he,g',qw,hm,hk⟩;refine ⟨he,g',by simpa using qw,fun i hi=>(hm i hi).imp id (fun h=>by simp at h; omega),((Kept.refl (Foot r g) w).alloc _).trans hk (fun _ _ h=>h)⟩) :G:=h
theorem ZgC {G:Prop} (h:G:=by
  rintro e w' ⟨he,g',a1,a2,a3⟩;obtain ⟨S',b1,b2⟩:=h1.setF a1 a2 a3;refine ⟨by rw [he]; simp [errP,hr],S',?_,b2.iff h2⟩;simpa [pushF,pushV,hr] using b1) :G:=h
theorem ZgD {G:Prop} (h:G:=by
  rintro e w' ⟨he,g',a1,a2,a3⟩;obtain ⟨S',b1,b2⟩:=h1.setV a1 a2 a3;refine ⟨by rw [he]; simp [errP,hr],S',?_,b2.iff h2⟩;simpa [pushF,pushV,hr] using b1) :G:=h
theorem sJ {G:Prop} (h:G:=by
  go_wp2_with fail;refine (has_no _ _ _ H.out).mono ?_;rintro e w' ⟨rfl,rfl⟩;go_wp2;go_ret;exact ⟨rfl,rfl⟩) :G:=h
theorem Zas {G:Prop} (h:G:=by
  rintro i (rfl | hi)
  ·exact .inl (.inl rfl)
  ·exact (hm i hi.symm).imp (fun e=> .inr e.symm) id) :G:=h
theorem Zay {G:Prop} (h:G:=by
  rintro e w' ⟨rfl,rfl⟩;go_wp2;try rw [Exit.noGoto_ret]
  go_ret;exact ⟨rfl,_,rfl⟩) :G:=h
theorem j8 {G:Prop} (h:G:=by
  go_enter Tryz.func156,Tryz.ntmps156;go_wp2;go_ret;exact ⟨rfl,rfl⟩) :G:=h
section
open Go Go.RowKit
def UW (F V:List Int)(c:Int) :List Int:=if c=0 then F else if c=1 then V else []
def Hs (n:Nat)(F V:List Int)(c:Int) :Nat:=if c=0 then n - F.length else if c=1 then n - V.length else 0
def Kw (F V:List Int)(c:Int) :List Int:=if c=0 then F else if c=1 then F++V else []
def errP (n:Nat)(F V:List Int)(c:Int) :Int:=if c=0 then(if F.length < n then 0 else 6) else if c=1 then(if V.length < n then 0 else 6) else 11
def pushF (n:Nat)(F:List Int)(c x:Int) :List Int:=if c=0∧F.length < n then F++[x] else F
def pushV (n:Nat)(V:List Int)(c x:Int) :List Int:=if c=1∧V.length < n then V++[x] else V
def OA:List Int→List Int→Int
 | x::_,_=>x
 | [],x::_=>x
 | [],[]=>0
def lO:List Int→List Int→Int
 | _::_,_=>0
 | [],_::_=>1
 | [],[]=>0
def IY:List Int→List Int→Bool
 | _::_,_=>true
 | [],_::_=>true
 | [],[]=>false
def FB:List Int→List Int
 | _::F=>F
 | []=> []
def FC:List Int→List Int→List Int
 | _::_,V=>V
 | [],_::V=>V
 | [],[]=> []
def dP (w:Zc)(b f v:Nat)(gf gv:Option Nat)(n:Nat)(F V:List Int) :Prop:=
 Zy w b 221 #[.pointer (some ⟨f,0,none⟩),.pointer (some ⟨v,0,none⟩)]∧
 RingAt 189 3 1 w f gf n F.length (F.map (ZX .i64))∧RingAt 189 3 1 w v gv n V.length (V.map (ZX .i64))∧
 (∀i,Foot f gf i→ ¬Foot v gv i)∧(¬Foot f gf b)∧(¬Foot v gv b)
def Ln (w:Zc)(b:Nat)(S:Nat→Prop)(n:Nat)(F V:List Int) :Prop:=
 ∃f v gf gv,dP w b f v gf gv n F V∧ ∀i,S i ↔ (i=b∨Foot f gf i∨Foot v gv i)
def Ca (S S':Nat→Prop)(w w':Zc) :Prop:=Kept S w w'∧ ∀i,S' i→S i∨w.heap.size≤i
section
variable {w w':Zc} {S S' T:Nat→Prop} {b f v n:Nat} {gf gv g':Option Nat} {F V:List Int}
theorem Ln.kept (h:Ln w b S n F V)(k:Kept T w w')(hT: ∀i,S i→ ¬T i) :Ln w' b S n F V:=by
 obtain ⟨f,v,gf,gv,⟨h1,h2,h3,h4⟩,h5⟩:=h;exact ⟨f,v,gf,gv,⟨h1.kept k (hT _ ((h5 _).2 (.inl rfl))),h2.kept k (fun i hi=>hT i ((h5 i).2 (.inr (.inl hi)))),h3.kept k (fun i hi=>hT i ((h5 i).2 (.inr (.inr hi)))),h4⟩,h5⟩
theorem Ln.lt (h:Ln w b S n F V) : ∀i,S i→i < w.heap.size:=by
 obtain ⟨f,v,gf,gv,⟨h1,h2,h3,h4⟩,h5⟩:=h;intro i hi
 rcases (h5 i).1 hi with rfl | hi | hi
 ·exact h1.lt
 ·exact h2.lt i hi
 ·exact h3.lt i hi
theorem Ln.drewN (h:Ln w b S n F V)(m:Nat) :Ln (w.drewN m) b S n F V:=h
theorem Ln.below (h:Ln w b S n F V)(hb:Zt w.heap.size w w') :Ln w' b S n F V:=h.kept (Y4 (S:=fun _=>False) hb) (fun _ _ h=>h)
theorem Ln.size (h:Ln w b S n F V) :F.length≤n∧V.length≤n∧n≤1048576:=by
 obtain ⟨f,v,gf,gv,⟨h1,h2,h3,h4⟩,h5⟩:=h;exact ⟨h2.size_le.1,h3.size_le.1,h2.size_le.2.2⟩
theorem dP.cells (h:dP w b f v gf gv n F V) :w.cell? ⟨b,0,none⟩=some (.pointer (some ⟨f,0,none⟩))∧w.cell? ⟨b,1,none⟩=some (.pointer (some ⟨v,0,none⟩)):=⟨h.1.cell 0,h.1.cell 1⟩
theorem Ca.refl (S:Nat→Prop)(w:Zc) :Ca S S w w:=⟨ZM _ _,fun _ h=> .inl h⟩
theorem dP.setF {F':List Int}(h:dP w b f v gf gv n F V)(hr:RingAt 189 3 1 w' f g' n F'.length (F'.map (ZX .i64)))(hm:Moved w gf g')(hk:Kept (Foot f gf) w w') :
  ∃S',Ln w' b S' n F' V∧Ca (fun i=>i=b∨Foot f gf i∨Foot v gv i) S' w w':=by
 obtain ⟨h1,h2,h3,h4,h5,h6⟩:=h;have new: ∀i,Foot f g' i→Foot f gf i∨w.heap.size≤i:=by
  exact Zas
 refine ⟨_,⟨f,v,g',gv,⟨h1.kept hk h5,hr,h3.kept hk (fun i hi hf=>h4 i hf hi),?_,?_,h6⟩,fun i=>Iff.rfl⟩,hk.more (fun i _ hi=> .inr (.inl hi)),?_⟩
 ·intro i hi hv
  rcases new i hi with h | h
  ·exact h4 i h hv
  ·have:=h3.lt i hv; omega
 ·intro hb
  rcases new b hb with h | h
  ·exact h5 h
  ·have:=h1.lt; omega
 ·rintro i (rfl | hi | hi)
  ·exact .inl (.inl rfl)
  ·exact (new i hi).imp (fun h=> .inr (.inl h)) id
  ·exact .inl (.inr (.inr hi))
theorem dP.setV {V':List Int}(h:dP w b f v gf gv n F V)(hr:RingAt 189 3 1 w' v g' n V'.length (V'.map (ZX .i64)))(hm:Moved w gv g')(hk:Kept (Foot v gv) w w') :
  ∃S',Ln w' b S' n F V'∧Ca (fun i=>i=b∨Foot f gf i∨Foot v gv i) S' w w':=by
 obtain ⟨h1,h2,h3,h4,h5,h6⟩:=h;have new: ∀i,Foot v g' i→Foot v gv i∨w.heap.size≤i:=by
  exact Zas
 refine ⟨_,⟨f,v,gf,g',⟨h1.kept hk h6,h2.kept hk (fun i hi hf=>h4 i hi hf),hr,?_,h5,?_⟩,fun i=>Iff.rfl⟩,hk.more (fun i _ hi=> .inr (.inr hi)),?_⟩
 ·intro i hi hv
  rcases new i hv with h | h
  ·exact h4 i hi h
  ·have:=h2.lt i hi; omega
 ·intro hb
  rcases new b hb with h | h
  ·exact h6 h
  ·have:=h1.lt; omega
 ·rintro i (rfl | hi | hi)
  ·exact .inl (.inl rfl)
  ·exact .inl (.inr (.inl hi))
  ·exact (new i hi).imp (fun h=> .inr (.inr h)) id
theorem Ca.iff {S2:Nat→Prop}(h:Ca S S' w w')(hS: ∀i,S2 i ↔ S i) :Ca S2 S' w w':=⟨h.1.more fun i _ hi=>(hS i).2 hi,fun i hi=>(h.2 i hi).imp (hS i).2 id⟩
section
variable {w:Zc} {S:Nat→Prop} {a:Option Addr} {L:List Int}
theorem JL.src (h:JL w S a L) :iJ w S a L.length 1 (L.map (ZX .i64)):=by
 refine ⟨by simp,fun v hv=>?_,fun hl=>?_⟩
 ·obtain ⟨x,_,rfl⟩:=List.mem_map.1 hv;rfl
 ·obtain ⟨b,off,e,hn,hb,hc⟩:=h hl;refine ⟨_,e,hn,fun j v hv=>?_⟩;rw [List.getElem?_map] at hv;have hj:j < L.length:=by
   rcases Nat.lt_or_ge j L.length with h1 | h1
   ·exact h1
   ·exact tr
  rw [add_plain,hc j hj];rw [Zf hj] at hv;rw [List.getD_eq_getElem?_getD,Zf hj];exact hv
end
theorem fM {w w':Zc}{base n size:Nat}{e:TypeId}{v:Value}{xs:List Value}(h:w.ownsRow base e size v n xs)(k:Zt w.heap.size w w') :w'.ownsRow base e size v n xs:=by
 obtain ⟨h1,h2⟩:=h;refine ⟨h1,?_⟩
 rcases h2 with h2 | ⟨g,cap,cur,rfl,h3,h4,h5⟩
 ·exact .inl h2
 ·exact .inr ⟨g,cap,cur,rfl,h3,Zy.below (w:=w) h4 k (Zy.lt (w:=w) h4),h5⟩
theorem Ny (w:Zc)(b o:Nat)(u:Value) :Kept (fun i=>i=b) w (w.setCell ⟨b,o,none⟩ u):=Kept.setCell (S:=fun i=>i=b) (ZM _ _) (.inl rfl) _
theorem jM (w:Zc)(x:Int)(T:Nat→Prop)(hT: ∀i,T i→i < w.heap.size) :iJ (w.alloc (.cells #[.int .i64 x] 3)) T (some ⟨w.heap.size,0,none⟩) 1 1 [.int .i64 x]:=
 ⟨rfl,fun v hv=>by simp at hv; subst hv; rfl,fun _=>⟨_,rfl,fun hf=>Nat.lt_irrefl _ (hT _ hf),fun j v hv=>by
  rw [add_plain,Nat.zero_add,(Zy.new w 3 #[.int .i64 x]).cell];simpa using hv⟩⟩
end
end
section
open Go Go.RowKit
theorem has_yes (b:Nat)(c:Int)(w:Zc)(h:c=0∨c=1) :Zi Zb 156 #[.pointer (some ⟨b,0,none⟩),.int .i64 c] w fun e w'=>e= .returned (.bool true)∧w=w':=by
 rcases h with rfl | rfl
 ·exact j8
 ·exact j8
theorem has_no (b:Nat)(c:Int)(w:Zc)(h:c < 0∨2≤c) :Zi Zb 156 #[.pointer (some ⟨b,0,none⟩),.int .i64 c] w fun e w'=>e= .returned (.bool false)∧w=w':=by
 rcases h with h | h
 ·have h1: ¬0≤c:=by omega
  exact j8
 ·have h1:0≤c:=by omega
  have h2: ¬c < 2:=by omega
  exact j8
theorem rL (b:Nat)(c:Int)(w:Zc)(h:c < 0∨2≤c) :Zi Zb 111 #[.pointer (some ⟨b,0,none⟩),.int .i64 c] w fun e w'=>e= .returned (.pointer none)∧w=w':=by
 have H:=Za h;clear h;go_enter Tryz.func111,Tryz.ntmps111;exact sJ
theorem DF (b f:Nat)(w:Zc)(h:w.cell? ⟨b,0,none⟩=some (.pointer (some ⟨f,0,none⟩))) :
  Zi Zb 111 #[.pointer (some ⟨b,0,none⟩),.int .i64 0] w fun e w'=>e= .returned (.pointer (some ⟨f,0,none⟩))∧w=w':=by
 go_enter Tryz.func111,Tryz.ntmps111;go_wp2_with fail;refine (has_yes _ _ _ (.inl rfl)).mono ?_;rintro e w' ⟨rfl,rfl⟩;exact Vr
theorem LP (b v:Nat)(w:Zc)(h:w.cell? ⟨b,1,none⟩=some (.pointer (some ⟨v,0,none⟩))) :
  Zi Zb 111 #[.pointer (some ⟨b,0,none⟩),.int .i64 1] w fun e w'=>e= .returned (.pointer (some ⟨v,0,none⟩))∧w=w':=by
 go_enter Tryz.func111,Tryz.ntmps111;go_wp2_with fail;refine (has_yes _ _ _ (.inr rfl)).mono ?_;rintro e w' ⟨rfl,rfl⟩;exact Vr
theorem cc (n:Nat)(w:Zc)(h1:1≤n)(h2:n≤4096) :Zi Zb 76 #[.int .i64 n] w fun e w'=>e= .returned (.pointer (some ⟨w.heap.size,0,none⟩))∧
  (∃S,Ln w' w.heap.size S n [] []∧ ∀i,S i→w.heap.size≤i)∧Zt w.heap.size w w':=by
 have h0: ¬(n:Int)< 1:=by omega
 have h3: ¬(4096:Int)< (n:Int):=by omega
 have H:=Za (fun W=>PA n W h1 Zp);have HN:=Za (show 1≤n∧n≤1048576 by omega);go_enter Tryz.func76,Tryz.ntmps76;go_wp2_with fail;have B0:Hid (Zy (w.alloc (.cells #[.pointer none,.pointer none] 221)) w.heap.size 221 #[.pointer none,.pointer none]):=Za (Zy.new _ _ _);have K0:Hid (Zt w.heap.size w (w.alloc (.cells #[.pointer none,.pointer none] 221))∧(w.alloc (.cells #[.pointer none,.pointer none] 221)).heap.size=w.heap.size+1):=Za ⟨(Zr _ _).alloc (Zg _) _,by simp⟩;generalize w.alloc (.cells #[.pointer none,.pointer none] 221)=w1 at*;obtain ⟨b,hb⟩ : ∃b,w.heap.size=b:=⟨_,rfl⟩;have HB:=Za hb;rw [hb] at B0 K0 ⊢;clear hb;refine Qz 3 ?_;rw [Y2];go_wp2_with fail;refine (H.out _).mono ?_;rintro e w2 ⟨rfl,MG⟩;have R2:Hid (RingAt 189 3 1 w2 w1.heap.size none n 0 []):=by rw [←MG]; exact Za (Tp w1 _ _ 1 n HN.out.1 HN.out.2)
 have B2:Hid (Zy w2 b 221 #[.pointer none,.pointer none]):=by rw [←MG]; exact Za (B0.out.alloc _)
 have K2:Hid (Kept (fun _=>False) w1 w2):=by rw [←MG]; exact Za ((ZM _ _).alloc _)
 have x1:=B2.out.frozen 0;have x2:w2.cell? ⟨b,0,none⟩=some (.pointer none):=B2.out.cell 0;clear MG;go_wp2_with fail;have B3:Hid (Zy (w2.setCell ⟨b,0,none⟩ (.pointer (some ⟨w1.heap.size,0,none⟩))) b 221 #[.pointer (some ⟨w1.heap.size,0,none⟩),.pointer none]):=Za (B2.out.set_ 0 _);obtain ⟨f,hf⟩ : ∃f,w1.heap.size=f:=⟨_,rfl⟩;have HF:=Za hf;rw [hf] at B3 R2 ⊢;have hfb:f=b+1:=by rw [←hf]; exact K0.out.2
 have R3:Hid (RingAt 189 3 1 (w2.setCell ⟨b,0,none⟩ (.pointer (some ⟨f,0,none⟩))) f none n 0 []):=Za (R2.out.kept (Ny _ _ _ _) (fun i hi=>by
  rcases hi with rfl | hi
  ·omega
  ·cases hi))
 have K3:Hid (Zt b w (w2.setCell ⟨b,0,none⟩ (.pointer (some ⟨f,0,none⟩)))∧f < (w2.setCell ⟨b,0,none⟩ (.pointer (some ⟨f,0,none⟩))).heap.size):=Za ⟨(Kept.below K0.out.1 (S:=fun i=>i=b) ((K2.out.more (T:=fun i=>i=b) (fun _ _ h=>h.elim)).trans (Ny _ _ _ _) (fun _ _ h=>h)) (fun i h=>by omega) (by rw [K0.out.2]; omega)),R3.out.lt _ (.inl rfl)⟩;have HFB:=Za hfb;clear B2 R2 K2 x1 x2 hf hfb B0 K0;generalize w2.setCell ⟨b,0,none⟩ (.pointer (some ⟨f,0,none⟩))=w3 at*;rw [Y2];go_wp2_with fail;refine (H.out _).mono ?_;rintro e w4 ⟨rfl,hw4⟩;have R4:Hid (RingAt 189 3 1 w4 w3.heap.size none n 0 []):=by rw [←hw4]; exact Za (Tp w3 _ _ 1 n HN.out.1 HN.out.2)
 have Q4:Hid (RingAt 189 3 1 w4 f none n 0 []):=by rw [←hw4]; exact Za (R3.out.kept (S:=fun _=>False) ((ZM _ _).alloc _) (fun _ _ h=>h))
 have B4:Hid (Zy w4 b 221 #[.pointer (some ⟨f,0,none⟩),.pointer none]):=by rw [←hw4]; exact Za (B3.out.alloc _)
 have K4:Hid (Zt b w w4):=by rw [←hw4]; exact Za (K3.out.1.alloc (by have:=K3.out.2; have:=HFB.out; omega) _)
 have x1:=B4.out.frozen 1;have x2:w4.cell? ⟨b,1,none⟩=some (.pointer none):=B4.out.cell 1;clear hw4;go_wp2_with fail;rw [Y2];go_wp2_with fail;go_ret;obtain ⟨v,hv⟩ : ∃v,w3.heap.size=v:=⟨_,rfl⟩;have hvf:f < v:=by rw [←hv]; exact K3.out.2
 have hfb:=HFB.out;rw [hv] at R4 ⊢;have hn: ∀x i,Foot x none i→i=x:=fun x i h=>by
  rcases h with rfl | h
  ·rfl
  ·cases h
 have hk:Kept (fun i=>i=b) w4 (w4.setCell ⟨b,1,none⟩ (.pointer (some ⟨v,0,none⟩))):=Ny _ _ _ _;refine ⟨by rw [HB.out]; rfl,⟨_,⟨f,v,none,none,⟨by rw [HB.out]; exact B4.out.set_ 1 _,Q4.out.kept hk (fun i hi=>by rw [hn _ _ hi]; omega),R4.out.kept hk (fun i hi=>by rw [hn _ _ hi]; omega),fun i h1 h2=>by have:=hn _ _ h1; have:=hn _ _ h2; omega,fun h=>by have:=hn _ _ h; have:=HB.out; omega,fun h=>by have:=hn _ _ h; have:=HB.out; omega⟩,fun i=>Iff.rfl⟩,?_⟩,?_⟩
 ·rintro i (rfl | h | h)
  ·omega
  ·have:=hn _ _ h; have:=HB.out; omega
  ·have:=hn _ _ h; have:=HB.out; omega
 ·rw [HB.out];exact Kept.below K4.out (Ny _ _ _ _) (fun i h=>by omega) (Nat.le_of_lt B4.out.lt)
theorem ck (b f nf:Nat)(w:Zc)(h0:w.cell? ⟨b,0,none⟩=some (.pointer (some ⟨f,0,none⟩)))(h2:w.cell? ⟨f,3,none⟩=some (.int .i64 nf))(hn:0 < nf) :
  Zi Zb 312 #[.pointer (some ⟨b,0,none⟩)] w fun e w'=>e= .returned (.int .i64 0)∧ ∃m,w'=w.drewN m:=by
 have HL:=Za (fun m=>GK f nf (w.drewN m) h2);go_enter Tryz.func312,Tryz.ntmps312;go_wp2;go_step3;go_wp2;go_step3;go_wp2;refine Qz 1 ?_;rw [Y2];go_wp2;go_quiet (fail);go_wp2_with fail;refine (HL.out _).mono ?_;exact Zay
theorem cm (b f v nv:Nat)(w:Zc)(h0:w.cell? ⟨b,0,none⟩=some (.pointer (some ⟨f,0,none⟩)))(h1:w.cell? ⟨b,1,none⟩=some (.pointer (some ⟨v,0,none⟩)))(h2:w.cell? ⟨f,3,none⟩=some (.int .i64 0))(h3:w.cell? ⟨v,3,none⟩=some (.int .i64 nv))(hn:0 < nv) :
  Zi Zb 312 #[.pointer (some ⟨b,0,none⟩)] w fun e w'=>e= .returned (.int .i64 1)∧ ∃m,w'=w.drewN m:=by
 have HL:=Za (fun m=>GK f 0 (w.drewN m) h2);have HV:=Za (fun m=>GK v nv (w.drewN m) h3);go_enter Tryz.func312,Tryz.ntmps312;go_wp2;go_step3;go_wp2;go_step3;go_wp2;refine Qz 2 ?_;rw [Y2];go_wp2;go_quiet (fail);go_wp2_with fail;refine (HL.out _).mono ?_;rintro e w' ⟨rfl,rfl⟩;go_wp2;rw [Y2];go_wp2;go_quiet (fail);go_wp2_with fail;refine (HV.out _).mono ?_;exact Zay
theorem mi (b f v:Nat)(w:Zc)(h0:w.cell? ⟨b,0,none⟩=some (.pointer (some ⟨f,0,none⟩)))(h1:w.cell? ⟨b,1,none⟩=some (.pointer (some ⟨v,0,none⟩)))(h2:w.cell? ⟨f,3,none⟩=some (.int .i64 0))(h3:w.cell? ⟨v,3,none⟩=some (.int .i64 0)) :
  Zi Zb 312 #[.pointer (some ⟨b,0,none⟩)] w fun e w'=>e= .returned (.int .i64 0)∧ ∃m,w'=w.drewN m:=by
 have HL:=Za (fun m=>GK f 0 (w.drewN m) h2);have HV:=Za (fun m=>GK v 0 (w.drewN m) h3);go_enter Tryz.func312,Tryz.ntmps312;go_wp2;go_step3;go_wp2;go_step3;go_wp2;refine Qz 3 ?_;rw [Y2];go_wp2;go_quiet (fail);go_wp2_with fail;refine (HL.out _).mono ?_;rintro e w' ⟨rfl,rfl⟩;go_wp2;rw [Y2];go_wp2;go_quiet (fail);go_wp2_with fail;refine (HV.out _).mono ?_;rintro e w' ⟨rfl,rfl⟩;go_wp2;rw [Y2];go_wp2;try rw [Exit.noGoto_ret]
 go_ret;exact ⟨rfl,_,rfl⟩
section
variable {w:Zc} {b n:Nat} {S:Nat→Prop} {F V:List Int}
theorem cj (h:Ln w b S n F V) :Zi Zb 312 #[.pointer (some ⟨b,0,none⟩)] w fun e w'=>e= .returned (.int .i64 (lO F V))∧ ∃m,w'=w.drewN m:=by
 obtain ⟨f,v,gf,gv,h1,_⟩:=h;have x:=h1.cells;have y:=h1.2.1.cells.2;have z:=h1.2.2.1.cells.2
 rcases F with _ | ⟨x0,F⟩
 ·rcases V with _ | ⟨y0,V⟩
  ·exact mi b f v w x.1 x.2 y z
  ·exact cm b f v _ w x.1 x.2 y z ZO
 ·exact ck b f _ w x.1 y ZO
theorem AE (c:Int)(h:Ln w b S n F V) :Zi Zb 111 #[.pointer (some ⟨b,0,none⟩),.int .i64 c] w fun e w'=>w=w'∧
  ((e= .returned (.pointer none)∧c≠0∧c≠1)∨ ∃r g,e= .returned (.pointer (some ⟨r,0,none⟩))∧(c=0∨c=1)∧RingAt 189 3 1 w r g n (UW F V c).length ((UW F V c).map (ZX .i64))):=by
 obtain ⟨f,v,gf,gv,h1,_⟩:=h
 by_cases c0:c=0
 ·subst c0;exact (DF b f w h1.cells.1).mono fun e w' ⟨he,hw⟩=>⟨hw,.inr ⟨f,gf,he,.inl rfl,h1.2.1⟩⟩
 ·by_cases c1:c=1
  ·subst c1;exact (LP b v w h1.cells.2).mono fun e w' ⟨he,hw⟩=>⟨hw,.inr ⟨v,gv,he,.inr rfl,h1.2.2.1⟩⟩
  ·exact (rL b c w Zp).mono fun e w' ⟨he,hw⟩=>⟨hw,.inl ⟨he,c0,c1⟩⟩
theorem fx {c:Int}(h0:c≠0)(h1:c≠1) :UW F V c=[]:=by rw [UW,if_neg h0,if_neg h1]
theorem eR {c:Int}(h0:c≠0)(h1:c≠1) :Hs n F V c=0:=by rw [Hs,if_neg h0,if_neg h1]
theorem MB {c:Int}(h:c=0∨c=1) :Hs n F V c=n -(UW F V c).length:=by
 rcases h with rfl | rfl <;> rfl
theorem pI (c:Int)(h:Ln w b S n F V) :Zi Zb 188 #[.pointer (some ⟨b,0,none⟩),.int .i64 c] w fun e w'=>e= .returned (.int .i64 (Hs n F V c:Nat))∧ ∃m,w'=w.drewN m:=by
 have HQ:=Za (AE c h);have hn:=h.size.2.2;clear h;go_enter Tryz.func188,Tryz.ntmps188;go_wp2_with fail;refine HQ.out.mono ?_;rintro e w' ⟨rfl,⟨rfl,h0,h1⟩ | ⟨r,g,rfl,hc,hr⟩⟩
 ·have HE:=Za (eR (n:=n) (F:=F) (V:=V) h0 h1);clear h0 h1;go_wp2_with fail;refine (cL _).mono ?_;rintro e w' ⟨rfl,rfl⟩;go_wp2;go_ret;exact ⟨by rw [HE.out]; rfl,0,rfl⟩
 ·have HR:=Za hr;have HE:=Za (MB (n:=n) (F:=F) (V:=V) hc);clear hr hc;go_wp2_with fail;refine (D8 r n _ _ HR.out.cells.1 HR.out.cells.2 hn HR.out.size_le.1).mono ?_;rintro e w' ⟨rfl,m,rfl⟩;go_wp2;go_ret;exact ⟨by rw [HE.out]; rfl,m,rfl⟩
def He (w:Zc)(L:List Int)(e:Ending)(w':Zc) :Prop:= ∃v,e= .returned v∧w'.ownsRow w.heap.size 3 1 v L.length (L.map (ZX .i64))∧Zt w.heap.size w w'
end
end
section
open Go Go.RowKit
section
variable {w:Zc} {b n r f v:Nat} {S:Nat→Prop} {F V L:List Int} {g gf gv:Option Nat}
theorem AI (h:RingAt 189 3 1 w r g n L.length (L.map (ZX .i64)))(x:Int)(hr:L.length < n) :
  Zi Zb 122 #[.pointer (some ⟨r,0,none⟩),.slice (some ⟨w.heap.size,0,none⟩) 1 1] (w.alloc (.cells #[.int .i64 x] 3)) fun e w'=>e= .returned (.int .i64 1)∧
   ∃g',RingAt 189 3 1 w' r g' n (L++[x]).length ((L++[x]).map (ZX .i64))∧Moved w g g'∧Kept (Foot r g) w w':=by
 have h0:=h.kept (S:=fun _=>False) ((ZM _ w).alloc (.cells #[.int .i64 x] 3)) (fun _ _ h=>h);have:=Le r n L.length 1 1 g (some ⟨w.heap.size,0,none⟩) _ [.int .i64 x] _ h0 (jM w x _ h.lt) Zp Zp;rw [show min 1 (n - L.length)=1 by omega] at this;exact Zgt
theorem AH (h:RingAt 189 3 1 w r g n L.length (L.map (ZX .i64)))(x:Int)(hr: ¬L.length < n) :
  Zi Zb 122 #[.pointer (some ⟨r,0,none⟩),.slice (some ⟨w.heap.size,0,none⟩) 1 1] (w.alloc (.cells #[.int .i64 x] 3)) fun e w'=>e= .returned (.int .i64 0)∧
   ∃g',RingAt 189 3 1 w' r g' n L.length (L.map (ZX .i64))∧Moved w g g'∧Kept (Foot r g) w w':=by
 have h0:=h.kept (S:=fun _=>False) ((ZM _ w).alloc (.cells #[.int .i64 x] 3)) (fun _ _ h=>h);have:=Le r n L.length 1 1 g (some ⟨w.heap.size,0,none⟩) _ [.int .i64 x] _ h0 (jM w x _ h.lt) Zp Zp;rw [show min 1 (n - L.length)=0 by omega] at this;exact Zgt
def Hf (w:Zc)(b:Nat)(S:Nat→Prop)(n:Nat)(F V:List Int)(w':Zc) :Prop:= ∃S',Ln w' b S' n F V∧Ca S S' w w'
theorem xu (c x:Int)(w:Zc)(h:c < 0∨2≤c) :Zi Zb 128 #[.pointer (some ⟨b,0,none⟩),.int .i64 c,.int .i64 x] w fun e w'=>e= .returned (.int .i64 11)∧w=w':=by
 have H:=Za h;clear h;go_enter Tryz.func128,Tryz.ntmps128;exact sJ
theorem LM (c x:Int)(k r:Nat)(w:Zc)(Q:Zc→Prop)(hh:c=0∨c=1)(hq:Zi Zb 111 #[.pointer (some ⟨b,0,none⟩),.int .i64 c] w fun e w'=>e= .returned (.pointer (some ⟨r,0,none⟩))∧w=w')
  (hp:Zi Zb 122 #[.pointer (some ⟨r,0,none⟩),.slice (some ⟨w.heap.size,0,none⟩) 1 1] (w.alloc (.cells #[.int .i64 x] 3)) fun e w'=>e= .returned (.int .i64 k)∧Q w') (hk:k=0∨k=1) :
  Zi Zb 128 #[.pointer (some ⟨b,0,none⟩),.int .i64 c,.int .i64 x] w fun e w'=>e= .returned (.int .i64 (if k=0 then 6 else 0))∧Q w':=by
 have HH:=Za hh;have HQ:=Za hq;have HP:=Za hp;clear hh hq hp
 rcases hk with rfl | rfl
 ·exact Zgi
 ·exact Zgi
theorem Hf.same (h:Ln w b S n F V) :Hf w b S n F V w:=⟨S,h,Ca.refl _ _⟩
theorem rH (c x:Int)(h:Ln w b S n F V) :Zi Zb 128 #[.pointer (some ⟨b,0,none⟩),.int .i64 c,.int .i64 x] w fun e w'=>e= .returned (.int .i64 (errP n F V c))∧Hf w b S n (pushF n F c x) (pushV n V c x) w':=by
 have h0:=h;obtain ⟨f,v,gf,gv,h1,h2⟩:=h
 by_cases c0:c=0
 ·subst c0
  by_cases hr:F.length < n
  ·refine (LM (b:=b) 0 x 1 f w _ (.inl rfl) (DF b f w h1.cells.1) (AI h1.2.1 x hr) (.inr rfl)).mono ?_;exact ZgC
  ·refine (LM (b:=b) 0 x 0 f w _ (.inl rfl) (DF b f w h1.cells.1) (AH h1.2.1 x hr) (.inl rfl)).mono ?_;exact ZgC
 ·by_cases c1:c=1
  ·subst c1
   by_cases hr:V.length < n
   ·refine (LM (b:=b) 1 x 1 v w _ (.inr rfl) (LP b v w h1.cells.2) (AI h1.2.2.1 x hr) (.inr rfl)).mono ?_;exact ZgD
   ·refine (LM (b:=b) 1 x 0 v w _ (.inr rfl) (LP b v w h1.cells.2) (AH h1.2.2.1 x hr) (.inl rfl)).mono ?_;exact ZgD
  ·refine (xu c x w Zp).mono ?_;rintro e w' ⟨he,rfl⟩;refine ⟨by rw [he]; simp [errP,c0,c1],?_⟩;have:Ln w b S n (pushF n F c x) (pushV n V c x):=by simpa [pushF,pushV,c0,c1] using h0
   exact Hf.same this
theorem S9 (h:Ln w b S n F V) :Zi Zb 111 #[.pointer (some ⟨b,0,none⟩),.int .i64 (lO F V)] w fun e w'=>w=w'∧ ∃r:Nat,e= .returned (.pointer (some ⟨r,0,none⟩))∧
  Hid (Zi Zb 296 #[.pointer (some ⟨r,0,none⟩),.int .i64 0] w fun e w'=>e= .returned (.tuple #[.int .i64 (OA F V),.bool (IY F V)])∧ ∃m,w'=w.drewN m)∧
  Hid (Zi Zb 297 #[.pointer (some ⟨r,0,none⟩)] w fun e w'=>(∃v,e= .returned v)∧Hf w b S n (FB F) (FC F V) w'):=by
 have h':=h;obtain ⟨f,v,gf,gv,h1,h2⟩:=h
 rcases F with _ | ⟨x,F⟩
 ·rcases V with _ | ⟨y,V⟩
  ·refine (DF b f w h1.cells.1).mono ?_;rintro e w' ⟨he,hw⟩;refine ⟨hw,f,he,Za ((Ld f 0 0 w h1.2.1.cells.2 Zp).mono fun e w' ⟨a,b⟩=>⟨a,0,b.symm⟩),Za ((Io f w h1.2.1.cells.2).mono fun e w' ⟨a,b⟩=>⟨⟨_,a⟩,b▸Hf.same h'⟩)⟩
  ·refine (LP b v w h1.cells.2).mono ?_;rintro e w' ⟨he,hw⟩;refine ⟨hw,v,he,Za (MM v n _ 0 gv _ _ w h1.2.2.1 rfl),Za ((OJ v n V.length gv (V.map (ZX .i64)) (.int .i64 y) w h1.2.2.1).mono fun e w' ⟨a,b1,b2⟩=>⟨⟨_,a⟩,?_⟩)⟩;obtain ⟨S',c1,c2⟩:=h1.setV b1 (fun i e=> .inl e) b2;exact ⟨S',c1,c2.iff h2⟩
 ·refine (DF b f w h1.cells.1).mono ?_;rintro e w' ⟨he,hw⟩;refine ⟨hw,f,he,Za (MM f n _ 0 gf _ _ w h1.2.1 rfl),Za ((OJ f n F.length gf (F.map (ZX .i64)) (.int .i64 x) w h1.2.1).mono fun e w' ⟨a,b1,b2⟩=>⟨⟨_,a⟩,?_⟩)⟩;obtain ⟨S',c1,c2⟩:=h1.setF b1 (fun i e=> .inl e) b2;exact ⟨S',c1,c2.iff h2⟩
theorem SC (h:Ln w b S n F V) :Zi Zb 291 #[.pointer (some ⟨b,0,none⟩)] w fun e w'=>e= .returned (.tuple #[.int .i64 (OA F V),.int .i64 (lO F V),.bool (IY F V)])∧ ∃m,w'=w.drewN m:=by
 have HL:=Za h;clear h;go_enter Tryz.func291,Tryz.ntmps291;go_wp2_with fail;refine (cj HL.out).mono ?_;rintro e w' ⟨rfl,m,rfl⟩;have ky:=Za (HL.out.drewN m);go_wp2_with fail;refine (S9 ky.out).mono ?_;rintro e w' ⟨rfl,r,rfl,HP,-⟩;clear ky HL;go_wp2_with fail;refine HP.out.mono ?_;rintro e w' ⟨rfl,q,rfl⟩;clear HP;go_wp2;go_ret3;exact ⟨rfl,m+q,rfl⟩
theorem xn (h:Ln w b S n F V) :Zi Zb 311 #[.pointer (some ⟨b,0,none⟩)] w fun e w'=>e= .returned (.tuple #[.int .i64 (OA F V),.int .i64 (lO F V),.bool (IY F V)])∧Hf w b S n (FB F) (FC F V) w':=by
 have HL:=Za h;clear h;go_enter Tryz.func311,Tryz.ntmps311;go_wp2_with fail;refine (SC HL.out).mono ?_;rintro e w' ⟨rfl,m,rfl⟩;have ky:=Za (HL.out.drewN m);go_wp2_with fail;refine (S9 ky.out).mono ?_;rintro e w' ⟨rfl,r,rfl,-,HP⟩;clear ky HL;go_wp2_with fail;refine HP.out.mono ?_;rintro e w' ⟨⟨u,rfl⟩,S',hl,hg⟩;have HE:Hid (Hf w b S n (FB F) (FC F V) w'):=Za ⟨S',hl,⟨((ZM _ w).drewN m).trans hg.1 (fun _ _ h=>h),hg.2⟩⟩;clear HP hl hg;go_wp2;go_ret3;exact ⟨rfl,HE.out⟩
end
end
section
open Go Go.RowKit
section
variable {w:Zc} {b n:Nat} {S:Nat→Prop} {F V:List Int}
theorem rr {w:Zc}{g base:Nat}{L:List Int}(h:Zy w g 3 (L.map (ZX .i64)).toArray)(hb:base≤g)(hl:L.length≤9223372036854775807) :w.ownsRow base 3 1 (.slice (some ⟨g,0,none⟩) L.length L.length) L.length (L.map (ZX .i64)):=
 ⟨by simp,.inr ⟨g,L.length,_,rfl,hb,h,Zg _,by unfold maxLen; omega,by simp,List.take_of_length_le ZO⟩⟩
theorem NN {r size:Nat}{g:Option Nat}{L:List Int}(h:RingAt 189 3 1 w r g size L.length (L.map (ZX .i64))) :
  Zi Zb 57 #[.pointer (some ⟨r,0,none⟩)] w (He w L):=by
 refine (Tj r size L.length g _ w h).mono ?_;rintro e w' ⟨he,hb,hw⟩;exact ⟨_,he,rr hb (Zg _) (by have:=h.size_le; omega),hw⟩
theorem dX (c:Int)(h:Ln w b S n F V) :Zi Zb 58 #[.pointer (some ⟨b,0,none⟩),.int .i64 c] w (He w (UW F V c)):=by
 have HQ:=Za (AE c h);clear h;go_enter Tryz.func58,Tryz.ntmps58;go_wp2_with fail;refine HQ.out.mono ?_;rintro e w' ⟨rfl,⟨rfl,h0,h1⟩ | ⟨r,g,rfl,hc,hr⟩⟩
 ·have HE:=Za (fx (F:=F) (V:=V) h0 h1);clear h0 h1;go_wp2_with fail;refine (gC _).mono ?_;rintro e w' ⟨rfl,rfl⟩;go_wp2;go_ret;exact ⟨_,rfl,by rw [HE.out]; exact Xj _ _ _ _,Zr _ _⟩
 ·have HR:=Za (NN hr);clear hr hc;go_wp2_with fail;refine HR.out.mono ?_;rintro e w' ⟨v,rfl,ho,hb⟩;have HO:=Za ho;have HB:=Za hb;clear ho hb;go_wp2;go_ret;exact ⟨_,rfl,HO.out,HB.out⟩
theorem oz (c:Int)(w:Zc)(h:c < 0∨2≤c) :Zi Zb 238 #[.pointer (some ⟨b,0,none⟩),.int .i64 c] w fun e w'=>e= .returned (.slice none 0 0)∧w=w':=by
 have H:=Za h;clear h;go_enter Tryz.func238,Tryz.ntmps238;exact sJ
theorem ay {w0 w1 w2:Zc}{v:Value}{B n:Nat}{xs:List Value}{t:TypeId}(h:Zt B w0 w1)(hB:B≤w1.heap.size)(hg:w1.grownBy w2 v.ownBlock)(ho:w1.ownsRow B t 1 v n xs) :Zt B w0 w2:=h.grown hg hB (fun q hq=>(ho.lt q hq).1)
theorem dW (h:Ln w b S n F V) :Zi Zb 238 #[.pointer (some ⟨b,0,none⟩),.int .i64 0] w (He w F):=by
 obtain ⟨j0,eZ,BM,BN,M5⟩:=LI;obtain ⟨f,v,gf,gv,h1,h2⟩:=h;have x0:=h1.cells.1;have HF:=Za (NN h1.2.1);have hs:=h1.2.1.size_le;clear h1 h2;go_enter Tryz.func238,Tryz.ntmps238;go_wp2_with fail;refine (has_yes _ _ _ (.inl rfl)).mono ?_;rintro e w' ⟨rfl,rfl⟩;go_wp2_with fail;refine Qz 2 ?_;rw [Y2];go_wp2_with fail;refine HF.out.mono ?_;rintro e w1 ⟨u,rfl,ho,hb⟩;have HO:=Za ho;have HB:=Za hb;obtain ⟨a,cp,rfl,_,_,_,hi⟩:=VK (S:=fun _=>False) ho (fun _ _ h=>h);have HI:=Za hi.src;clear hi ho hb HF x0;go_wp2_with (at_builtin; refine QL _ rfl (.tmp 23) (.tmp 25) 47 rfl w.heap.size 3 j0 _ 1 8 YO eZ BM BN M5 rfl Nat.one_pos (.slice none 0 0) 0 [] rfl (Xj _ _ _ _) a F.length cp (F.map (ZX .i64)) rfl ZO (fun h0=>by obtain ⟨ad,e,_,hc⟩:=HI.out.2.2 h0; exact ⟨ad,e,hc⟩) HI.out.2.1 N4 Zp HB.out.size ?_; intro v2 w2 tS Wg Ph);have HP:Hid (w2.ownsRow w.heap.size 3 1 v2 F.length (F.map (ZX .i64))∧Zt w.heap.size w w2):=Za ⟨by simpa using tS,HB.out.grown Wg HB.out.size (fun q hq=>by cases hq)⟩;clear tS Wg Ph HO HB HI;go_wp2_with fail;rw [Y2];go_wp2_with fail;go_ret;exact ⟨_,rfl,HP.out.1,HP.out.2⟩
theorem kH (h:Ln w b S n F V) :Zi Zb 238 #[.pointer (some ⟨b,0,none⟩),.int .i64 1] w (He w (F++V)):=by
 obtain ⟨j0,eZ,BM,BN,M5⟩:=LI;obtain ⟨f,v,gf,gv,h1,h2⟩:=h;have x0:=h1.cells.1;have H1:=Za h1;have HF:=Za (NN h1.2.1);have hs:=h1.2.1.size_le;have ht:=h1.2.2.1.size_le;clear h1 h2;go_enter Tryz.func238,Tryz.ntmps238;go_wp2_with fail;refine (has_yes _ _ _ (.inr rfl)).mono ?_;rintro e w' ⟨rfl,rfl⟩;go_wp2_with fail;refine Qz 3 ?_;rw [Y2];go_wp2_with fail;refine HF.out.mono ?_;rintro e w1 ⟨u,rfl,ho,hb⟩;have HO:=Za ho;have HB:=Za hb;obtain ⟨a,cp,rfl,_,_,_,hi⟩:=VK (S:=fun _=>False) ho (fun _ _ h=>h);have HI:=Za hi.src;clear hi ho hb HF x0;go_wp2_with (at_builtin; refine QL _ rfl (.tmp 23) (.tmp 25) 47 rfl w.heap.size 3 j0 _ 1 8 YO eZ BM BN M5 rfl Nat.one_pos (.slice none 0 0) 0 [] rfl (Xj _ _ _ _) a F.length cp (F.map (ZX .i64)) rfl ZO (fun h0=>by obtain ⟨ad,e,_,hc⟩:=HI.out.2.2 h0; exact ⟨ad,e,hc⟩) HI.out.2.1 N4 Zp HB.out.size ?_; intro v2 w2 tS Wg Ph);have HP:Hid (w2.ownsRow w.heap.size 3 1 v2 F.length (F.map (ZX .i64))∧Zt w.heap.size w w2):=Za ⟨by simpa using tS,HB.out.grown Wg HB.out.size (fun q hq=>by cases hq)⟩;have KP:Kept (fun _=>False) w w2:=Y4 HP.out.2;have x1:=KP.cell (fun h=>h) H1.out.cells.2;have HV:=Za (NN (H1.out.2.2.1.kept KP (fun _ _ h=>h)));clear tS Wg Ph HO HB HI KP;go_wp2_with fail;rw [Y2];go_wp2_with fail;refine HV.out.mono ?_;rintro e w3 ⟨u,rfl,ho,hb⟩;have HO:=Za (show w3.ownsRow w.heap.size 3 1 v2 F.length (F.map (ZX .i64))∧Zt w.heap.size w w3 from ⟨fM HP.out.1 hb,HP.out.2.trans (hb.mono HP.out.2.size)⟩);obtain ⟨a,cp,rfl,_,_,_,hi⟩:=VK (S:=fun _=>False) ho (fun _ _ h=>h);have HI:=Za hi.src;clear hi ho hb HV x1;go_wp2_with (at_builtin; refine QL _ rfl (.tmp 23) (.tmp 25) 47 rfl w.heap.size 3 j0 _ 1 8 YO eZ BM BN M5 rfl Nat.one_pos v2 F.length (F.map (ZX .i64)) rfl HO.out.1 a V.length cp (V.map (ZX .i64)) rfl ZO (fun h0=>by obtain ⟨ad,e,_,hc⟩:=HI.out.2.2 h0; exact ⟨ad,e,hc⟩) HI.out.2.1 N4 Zp HO.out.2.size ?_; intro v4 w4 ho4 hg4 hv4);have HQ:Hid (w4.ownsRow w.heap.size 3 1 v4 (F++V).length ((F++V).map (ZX .i64))∧Zt w.heap.size w w4):=Za ⟨by simpa using ho4,ay HO.out.2 HO.out.2.size hg4 HO.out.1⟩;clear ho4 hg4 hv4 HO HI HP H1;go_wp2_with fail;rw [Y2];go_wp2_with fail;go_ret;exact ⟨_,rfl,HQ.out.1,HQ.out.2⟩
theorem kG (c:Int)(h:Ln w b S n F V) :Zi Zb 238 #[.pointer (some ⟨b,0,none⟩),.int .i64 c] w (He w (Kw F V c)):=by
 by_cases c0:c=0
 ·subst c0; exact dW h
 ·by_cases c1:c=1
  ·subst c1; exact kH h
  ·rw [Kw,if_neg c0,if_neg c1];exact (oz c w Zp).mono fun e w' ⟨he,hw⟩=>⟨_,he,Xj _ _ _ _,hw▸Zr _ _⟩
end
end
section
def asg (om:Int→Int) :List Int→List Int→Int→List (Int × Int) × List Int × List Int × Int
 | [],[],B=>([],[],[],B)
 | [],x::V,B=>if om x≤B then((x,1)::(asg om [] V (B - om x)).1,(asg om [] V (B - om x)).2) else([],[],x::V,B)
 | x::F,V,B=>if om x≤B then((x,0)::(asg om F V (B - om x)).1,(asg om F V (B - om x)).2) else([],x::F,V,B)
termination_by F V=>F.length+V.length
section
variable {om:Int→Int} {F V:List Int} {B:Int}
theorem ao (h:IY F V=false) :asg om F V B=([],F,V,B)∧F=[]∧V=[]:=by
 rcases F with _ | ⟨x,F⟩
 ·rcases V with _ | ⟨y,V⟩
  ·exact ⟨by rw [asg],rfl,rfl⟩
  ·cases h
 ·cases h
theorem ar (h:IY F V=true)(hx: ¬om (OA F V)≤B) :asg om F V B=([],F,V,B):=by
 rcases F with _ | ⟨x,F⟩
 ·rcases V with _ | ⟨y,V⟩
  ·cases h
  ·simp only [OA] at hx; rw [asg,if_neg hx]
 ·simp only [OA] at hx; rw [asg,if_neg hx]
theorem ak (h:IY F V=true)(hx:om (OA F V)≤B) :asg om F V B=((OA F V,lO F V)::(asg om (FB F) (FC F V) (B - om (OA F V))).1,(asg om (FB F) (FC F V) (B - om (OA F V))).2):=by
 rcases F with _ | ⟨x,F⟩
 ·rcases V with _ | ⟨y,V⟩
  ·cases h
  ·simp only [OA] at hx; rw [asg,if_pos hx]; rfl
 ·simp only [OA] at hx; rw [asg,if_pos hx]; rfl
theorem Ie (h:IY F V=true) :(FB F).length+(FC F V).length+1=F.length+V.length:=by
 rcases F with _ | ⟨x,F⟩
 ·rcases V with _ | ⟨y,V⟩
  ·cases h
  ·simp [FB,FC]
 ·simp [FB,FC]; omega
theorem rD (F V:List Int) :(FB F).length≤F.length∧(FC F V).length≤V.length:=by
 rcases F with _ | ⟨x,F⟩
 ·rcases V with _ | ⟨y,V⟩<;> simp [FB,FC]
 ·simp [FB,FC]
end
theorem Fo {om:Int→Int}{P:List Int→List Int→Int→List (Int × Int) × List Int × List Int × Int→Prop}(hnone: ∀B,P [] [] B ([],[],[],B))
  (qz: ∀F V B,IY F V=true→ ¬om (OA F V)≤B→P F V B ([],F,V,B))
  (hnext: ∀F V B r,IY F V=true→om (OA F V)≤B→P (FB F) (FC F V) (B - om (OA F V)) r→P F V B ((OA F V,lO F V)::r.1,r.2)) : ∀(n:Nat) (F V:List Int) (B:Int),F.length+V.length=n→P F V B (asg om F V B):=by
 intro n
 induction n with
 | zero=>
  intro F V B h;obtain rfl:=Z3 (show F.length=0 by omega);obtain rfl:=Z3 (show V.length=0 by omega);rw [(ao rfl).1];exact hnone B
 | succ n ih=>
  intro F V B h;have hb:IY F V=true:=by
   rcases F with _ | ⟨x,F⟩
   ·rcases V with _ | ⟨y,V⟩
    ·simp at h
    ·rfl
   ·rfl
  by_cases hx:om (OA F V)≤B
  ·rw [ak hb hx];exact hnext F V B _ hb hx (ih _ _ _ (by have:=Ie hb; omega))
  ·rw [ar hb hx];exact qz F V B hb hx
def Iy (om:Int→Int) :List (Int × Int)→Int
 | []=>0
 | p::l=>om p.1+Iy om l
section
variable {om:Int→Int}
theorem di (h: ∀i,0≤om i)(l:List (Int × Int)) :0≤Iy om l:=by
 induction l with
 | nil=>simp [Iy]
 | cons p l ih=>simp only [Iy]; have:=h p.1; omega
theorem u6 (om:Int→Int)(F V:List Int)(B:Int) :(asg om F V B).2.2.2=B - Iy om (asg om F V B).1:=
 Fo (P:=fun F V B r=>r.2.2.2=B - Iy om r.1) (fun B=>by simp [Iy]) (fun F V B _ _=>by simp [Iy]) (fun F V B r _ _ h=>by simp only [Iy,h]; omega) _ F V B rfl
theorem oF (om:Int→Int)(F V:List Int)(B:Int)(h0:0≤B) :0≤(asg om F V B).2.2.2:=
 Fo (P:=fun F V B r=>0≤B→0≤r.2.2.2) (fun B h=>h) (fun F V B _ _ h=>h) (fun F V B r _ hx h h0=>h Zp) _ F V B rfl h0
theorem kK (om:Int→Int)(F V:List Int)(B:Int) :F=((asg om F V B).1.filter (·.2==0)).map (·.1)++(asg om F V B).2.1∧V=((asg om F V B).1.filter (·.2==1)).map (·.1)++(asg om F V B).2.2.1:=
 Fo (P:=fun F V B r=>F=(r.1.filter (·.2==0)).map (·.1)++r.2.1∧V=(r.1.filter (·.2==1)).map (·.1)++r.2.2.1) (fun B=>⟨rfl,rfl⟩) (fun F V B _ hx=>⟨rfl,rfl⟩) (fun F V B r hb hx h=>by
  rcases F with _ | ⟨x,F⟩
  ·rcases V with _ | ⟨y,V⟩
   ·cases hb
   ·obtain ⟨h1,h2⟩:=h;simp only [FB,FC,OA,lO] at h1 h2 ⊢;exact ⟨by simpa using h1,by simp [JT]; exact h2⟩
  ·obtain ⟨h1,h2⟩:=h;simp only [FB,FC,OA,lO] at h1 h2 ⊢;exact ⟨by simp [JT]; exact h1,by simpa using h2⟩) _ F V B rfl
theorem kJ (om:Int→Int)(F V:List Int)(B:Int) : ∀p ∈ (asg om F V B).1,p.2=0∨p.2=1:=
 Fo (P:=fun F V B r=> ∀p ∈ r.1,p.2=0∨p.2=1) (fun B p h=>by simp at h) (fun F V B _ hx p h=>by simp at h) (fun F V B r hb hx h p hp=>by
  rcases List.mem_cons.1 hp with rfl | hp
  ·rcases F with _ | ⟨x,F⟩
   ·rcases V with _ | ⟨y,V⟩
    ·cases hb
    ·exact .inr rfl
   ·exact .inl rfl
  ·exact h p hp) _ F V B rfl
theorem iO (om:Int→Int)(F V:List Int)(B:Int) :(asg om F V B).1.length+(asg om F V B).2.1.length+(asg om F V B).2.2.1.length=F.length+V.length:=
 Fo (P:=fun F V B r=>r.1.length+r.2.1.length+r.2.2.1.length=F.length+V.length) (fun B=>rfl) (fun F V B _ hx=>by simp) (fun F V B r hb hx h=>by have:=Ie hb; simp; omega) _ F V B rfl
end
end
end Go.Proofs.YtianiiijaopdpaaGreat
