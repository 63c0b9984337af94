/- Part 16 of 58: Seqs L08Ent Reads. -/
import Derived.Test.YtianiiijaopdpaaGreatZu00
import Derived.Test.YtianiiijaopdpaaGreatZu08
import Derived.Test.YtianiiijaopdpaaGreatZu15
namespace Go.Proofs.YtianiiijaopdpaaGreat
set_option linter.unusedVariables false
set_option linter.unusedSimpArgs false
set_option maxRecDepth 100000
set_option maxHeartbeats 8000000
open _root_.List renaming flatMap_cons → QJ, getElem?_append_left → YD, getElem?_append_right → YV, getElem?_cons_succ → J7, getElem?_eq_getElem → Zf, getElem?_eq_some_iff → Zh, length_append → ZN, length_cons → Yu, mem_cons → Z6
open _root_.Nat renaming add_assoc → Jy, zero_add → Yb, zero_mul → Jo
open _root_.Go.Op renaming eqFields → KT
open _root_.Go renaming Program → YZ, TypeId → ZT, Value → Zo, World → Zc, run_part_plain → Qh
open _root_.Go.Result renaming andThen_ok → ZW
theorem ZgG {G:Prop} (h:G:=by
  rcases h.2 with ⟨rfl,rfl⟩ | ⟨g,cp,cur,rfl,_,_,h1,h2,_⟩
  ·exact ⟨none,0,rfl,by omega,by unfold maxLen; omega⟩
  ·exact ⟨_,cp,rfl,h1,h2⟩) :G:=h
theorem Zg1 {G:Prop} (h:G:=by
  refine ⟨h.1,h.2.imp id ?_⟩;rintro ⟨g,cp,cur,rfl,h1,h2,h3⟩;exact ⟨g,cp,cur,rfl,h1,(hb g rfl).trans h2,h3⟩) :G:=h
theorem Zal {G:Prop} (h:G:=by
  refine ⟨h.1,h.2.imp id ?_⟩;rintro ⟨g,cp,cur,rfl,h1,h2⟩;exact ⟨g,cp,cur,rfl,by omega,h2⟩) :G:=h
theorem Zam {G:Prop} (h:G:=by
  refine ⟨h.1,h.2.imp id ?_⟩;rintro ⟨g,cp,cur,rfl,h1,h2⟩;exact ⟨g,cp,cur,rfl,hB g rfl,h2⟩) :G:=h
section
open Go Go.ChangeShapes Go.WideShapes Go.RowKit Go.Deep
theorem Bf {w w':Zc}{b o:Nat}{cs:List Zo}(h:w.rangeAt b o cs)(hb:w'.heap[b]?=w.heap[b]?) :w'.rangeAt b o cs:=fun j v hv=>(World.cell?_of_block (w:=w) (a:=⟨b,o+j,none⟩) hb).trans (h j v hv)
section
variable {α:Type} {row:α→List Zo} {k:Nat}
def Yx (row:α→List Zo)(l:List α) :List Zo:=l.flatMap row
theorem Bt (hk: ∀v,(row v).length=k)(l:List α) :(Yx row l).length=l.length*k:=by
 induction l with
 | nil=>simp [Yx]
 | cons x l ih=>simp only [Yx,QJ,ZN,hk,Yu] at ih ⊢; rw [ih,Nat.succ_mul]; omega
theorem Ki (l m:List α) :Yx row (l++m)=Yx row l++Yx row m:=by simp [Yx]
theorem EM (v:α) :Yx row [v]=row v:=by simp [Yx]
theorem EL (hk: ∀v,(row v).length=k){l:List α}{i:Nat}{v:α}(h:l[i]?=some v){j:Nat}(hj:j < k) :(Yx row l)[i*k+j]?=(row v)[j]?:=by
 induction l generalizing i with
 | nil=>simp at h
 | cons x l ih=>
  cases i with
  | zero=>
   simp at h;subst h;simp only [Yx,QJ,Jo,Yb];rw [YD (by rw [hk]; exact hj)]
  | succ i=>
   simp only [J7] at h;have:=ih h;simp only [Yx,QJ] at this ⊢;rw [YV (by rw [hk,Nat.succ_mul]; omega),hk,show (i+1)*k+j - k=i*k+j by rw [Nat.succ_mul]; omega];exact this
theorem Te (hk: ∀v,(row v).length=k){w:Zc}{b off:Nat}{l:List α}(h: ∀j u,(Yx row l)[j]?=some u→w.cell? ⟨b,off+j,none⟩=some u){i:Nat}{v:α}(hi:l[i]?=some v) :w.rangeAt b (off+i*k) (row v):=by
 intro j u hu;have hj:j < k:=by rw [←hk v]; exact tu
 rw [Jy];exact h _ _ ((EL hk hi hj).trans hu)
theorem Sx (hk: ∀v,(row v).length=k)(h0:0 < k){w:Zc}{b off:Nat}{l:List α}(h: ∀i v,l[i]?=some v→w.rangeAt b (off+i*k) (row v)) : ∀j u,(Yx row l)[j]?=some u→w.cell? ⟨b,off+j,none⟩=some u:=by
 intro j u hu;have hj:j < l.length*k:=by rw [←Bt hk]; exact tu
 have hq:j/k < l.length:=Nat.div_lt_of_lt_mul (by rwa [Nat.mul_comm]);have hr:j%k < k:=Nat.mod_lt _ h0;have hd:j/k*k+j%k=j:=by rw [Nat.mul_comm]; exact Nat.div_add_mod j k
 have e:=EL hk (Zf hq) hr;rw [hd,hu] at e;have:=h _ _ (Zf hq) (j%k) u e.symm;rwa [show off+j/k*k+j%k=off+j by omega] at this
def J6 (row:α→List Zo)(k:Nat)(w:Zc)(S:Nat→Prop)(a:Option Addr)(l:List α) :Prop:=
 0 < l.length→ ∃b off,a=some ⟨b,off,none⟩∧ ¬S b∧b < w.heap.size∧ ∀i v,l[i]?=some v→w.rangeAt b (off+i*k) (row v)
variable {w w':Zc} {S T:Nat→Prop} {a:Option Addr} {l:List α} {B:Nat} {e:ZT}
theorem J6.nil (w:Zc)(S:Nat→Prop)(a:Option Addr) :J6 row k w S a ([] :List α):=fun h=>by simp at h
theorem J6.same (h:J6 row k w S a l)(hs:w.heap.size≤w'.heap.size)(hb: ∀b,b < w.heap.size→ ¬S b→w'.heap[b]?=w.heap[b]?) :J6 row k w' S a l:=fun h0=>by
 obtain ⟨b,off,h1,h2,h3,h4⟩:=h h0;exact ⟨b,off,h1,h2,by omega,fun i v hi=>Bf (h4 i v hi) (hb b h3 h2)⟩
theorem J6.below (h:J6 row k w S a l)(hb:Below w.heap.size w w') :J6 row k w' S a l:=h.same hb.size fun b XJ _=>hb.block b XJ
theorem J6.kept (h:J6 row k w S a l)(hb:Kept S w w') :J6 row k w' S a l:=h.same hb.size fun b XJ hn=>hb.block b XJ hn
theorem J6.alloc (h:J6 row k w S a l)(o:Obj) :J6 row k (w.alloc o) S a l:=h.same ZO fun b XJ _=>Below.heap_alloc w o b XJ
theorem J6.more (h:J6 row k w S a l)(hT: ∀i,i < w.heap.size→T i→S i) :J6 row k w T a l:=fun h0=>by
 obtain ⟨b,off,h1,h2,h3,h4⟩:=h h0;exact ⟨b,off,h1,fun ht=>h2 (hT b h3 ht),h3,h4⟩
theorem J6.at (h:J6 row k w S a l){i:Nat}{v:α}(hi:l[i]?=some v) : ∃b off,a=some ⟨b,off,none⟩∧ ¬S b∧b < w.heap.size∧w.rangeAt b (off+i*k) (row v):=by
 obtain ⟨b,off,h1,h2,h3,h4⟩:=h IL;exact ⟨b,off,h1,h2,h3,h4 i v hi⟩
theorem J6.take (h:J6 row k w S a l)(n:Nat) :J6 row k w S a (l.take n):=fun h0=>by
 obtain ⟨b,off,h1,h2,h3,h4⟩:=h (by rw [List.length_take] at h0; omega);refine ⟨b,off,h1,h2,h3,fun i v hi=>h4 i v ?_⟩;rw [List.getElem?_take] at hi
 split at hi
 ·exact hi
 ·cases hi
theorem J6.flat (hk: ∀v,(row v).length=k)(hp:0 < k)(h:J6 row k w S a l)(h0:0 < l.length) : ∃ad,a=some ad∧ ∀j u,(Yx row l)[j]?=some u→w.cell? (ad.add j)=some u:=by
 obtain ⟨b,off,h1,_,_,h4⟩:=h h0;refine ⟨⟨b,off,none⟩,h1,fun j u hu=>?_⟩;rw [add_plain];exact Sx hk hp h4 j u hu
variable {s:Zo} {n:Nat} {xs:List Zo}
theorem cv (h:w.ownsRow B e k s n xs) : ∃a cp,s= .slice a n cp∧n≤cp∧cp≤maxLen:=by
 exact ZgG
theorem Fy (h:w.ownsRow B e k s n xs)(hb: ∀i,s.ownBlock=some i→w'.heap[i]?=w.heap[i]?) :w'.ownsRow B e k s n xs:=by
 exact Zg1
theorem SV (h:w.ownsRow B e k s n xs){C:Nat}(hB:C≤B) :w.ownsRow C e k s n xs:=by
 exact Zal
theorem rn (h:w.ownsRow B e k s n xs){C:Nat}(hB: ∀i,s.ownBlock=some i→C≤i) :w.ownsRow C e k s n xs:=by
 exact Zam
theorem DZ (h:w.ownsRow B e k s n xs)(hb:Below w.heap.size w w') :w'.ownsRow B e k s n xs:=Fy h fun i hi=>hb.block i (h.lt i hi).2
theorem SW (h:w.ownsRow B e k s n xs)(hb:Kept S w w')(hS: ∀i,s.ownBlock=some i→ ¬S i) :w'.ownsRow B e k s n xs:=Fy h fun i hi=>hb.block i (h.lt i hi).2 (hS i hi)
theorem UK (h:w.ownsRow B e k s n xs){i:Nat}(hi:s.ownBlock=some i) : ∃cur,Zy w i e cur∧B≤i:=by
 rcases h.2 with ⟨rfl,_⟩ | ⟨g,cp,cur,rfl,h1,h2,_⟩
 ·cases hi
 ·simp only [Value.ownBlock,Option.some.injEq] at hi;subst hi;exact ⟨cur,h2,h1⟩
theorem fE (w:Zc)(t:ZT)(cs:List Zo) : ∀j u,cs[j]?=some u→(w.alloc (.cells cs.toArray t)).cell? ((⟨w.heap.size,0,none⟩ :Addr).add j)=some u:=fun j u hu=>by
 rw [add_plain,(Zy.new w t cs.toArray).cell];simpa using hu
end
section
variable {P:YZ} (w:Zc)
def I3 (P:YZ)(xs ys:Array Zo)(f:Field) :Prop:=
 f.name≠ "_" ∧((∃k n m,P.underlying f.type=some (.int k)∧xs[f.offset]?=some (.int k n)∧ys[f.offset]?=some (.int k m))∨(∃n m,P.underlying f.type=some .bool∧xs[f.offset]?=some (.bool n)∧ys[f.offset]?=some (.bool m))∨
  ∃n m,P.underlying f.type=some .string∧xs[f.offset]?=some (.string n)∧ys[f.offset]?=some (.string m))
theorem WY {n m:ByteArray} :(n.toList==m.toList)=true ↔ n=m:=by
 rw [beq_iff_eq,ByteArray.toList_eq,ByteArray.toList_eq];constructor
 ·intro h;have:n.data=m.data:=Array.toList_inj.1 h
  cases n; cases m; simp_all
 ·rintro rfl; rfl
theorem Nr (d:Nat)(xs ys:Array Zo) :
  ∀(fs:List Field),(∀f ∈ fs,I3 P xs ys f)→
   ∃r,(KT (d+1) xs ys fs).run P w= .ok r w∧(r=true ↔ ∀f ∈ fs,xs[f.offset]?=ys[f.offset]?)
 | [],_=>⟨true,by simp [KT],by simp⟩
 | f::fs,h=>by
  obtain ⟨SG,h1⟩:=h f ZO;obtain ⟨r,hr,MF⟩:=Nr d xs ys fs (fun j hj=>h j (by simp [hj]));obtain ⟨x,y,b,hn,hm,hp,dJ,hq,hb⟩ : ∃x y b,xs[f.offset]?=some x∧ys[f.offset]?=some y∧(part f.type xs f.offset).run P w= .ok x w∧(part f.type ys f.offset).run P w= .ok y w∧(Op.equalIn (d+1) f.type x y).run P w= .ok b w∧(b=true ↔ x=y):=by
   rcases h1 with ⟨k,n,m,hk,hn,hm⟩ | ⟨n,m,hk,hn,hm⟩ | ⟨n,m,hk,hn,hm⟩
   ·exact ⟨_,_,_,hn,hm,Qh w Ee hn,Qh w Ee hm,run_equalIn_int (P:=P) w d f.type k k n m hk,by simp⟩
   ·exact ⟨_,_,_,hn,hm,Qh w Ee hn,Qh w Ee hm,run_equalIn_bool' (P:=P) w d f.type n m hk,by simp⟩
   ·exact ⟨_,_,_,hn,hm,Qh w Ee hn,Qh w Ee hm,run_equalIn_string (P:=P) w d f.type n m hk,fun h=>by rw [WY.1 h],fun h=>by injection h with h; exact WY.2 h⟩
  cases b with
  | true=>
   obtain rfl:=hb.1 rfl;refine ⟨r,by simp only [KT,SG,ne_eq,not_false_eq_true,if_true,Sem.run_bind,hp,dJ,hq,ZW]; simpa using hr,?_⟩;simp only [Z6,forall_eq_or_imp,hn,hm,true_and];exact MF
  | false=>
   refine ⟨false,by simp only [KT,SG,ne_eq,not_false_eq_true,if_true,Sem.run_bind,hp,dJ,hq,ZW]; simp,?_⟩;have Kt:x≠y:=fun e=>by have:=hb.2 e; cases this
   simp [hn,hm,Kt]
theorem EK {t:ZT}{fs:Array Field}(xs ys:Array Zo)(hu:P.underlying t=some (.struct fs))(hp:P.stoodInHeld t=false)(hx: ∀f ∈ fs.toList,I3 P xs ys f) :
  ∃r,(Op.equalIn 10000 t (.agg xs) (.agg ys)).run P w= .ok r w∧(r=true ↔ ∀f ∈ fs.toList,xs[f.offset]?=ys[f.offset]?):=by
 have hf:P.fieldsOf t=fs:=by simp [Program.fieldsOf,hu]
 rw [run_equalIn_struct w 9999 t xs ys (by rw [hf]; exact hu) hp,hf];exact Nr w 9998 xs ys _ hx
end
theorem PT {w:Zc}{base b off n:Nat}{cs:List Zo}(h:w.cells? base ((⟨b,off,none⟩ :Addr).add n) cs.length=some cs) :w.rangeAt b (off+n) cs:=fun j v hv=>by
 obtain ⟨_,_,h2⟩:=World.cells?_some h;have:=h2 j (Zh.1 hv).1;rw [add_plain,add_plain] at this;exact this.trans hv
def dO {α:Type}(row:α→List Zo)(k:Nat)(Fit:α→Prop)(w:Zc)(a:Option Addr)(len cap:Nat) :Prop:=
 len≤cap∧cap≤maxLen∧ ∃l:List α,l.length=len∧(∀v ∈ l,Fit v)∧J6 row k w (fun _=>False) a l
section
variable {α:Type} [Inhabited α] {row:α→List Zo} {k:Nat} {Fit:α→Prop} {H:Type} {enc:ZT × Zo→H} {P:YZ} {w:Zc} {base:Nat} {held:Bool}
theorem CW {t e:ZT}{n:Nat}{v:Zo}{y:DataW H × List MemPlace}(ht:P.underlying t=some (.slice e))(hC:P.cellsOf e=k)(hk: ∀v,(row v).length=k)(hp:0 < k)
  (htr: ∀(n:Nat) (cs:List Zo) (x:DataW H × List MemPlace),DataW.trod enc P w base (fun _=>true) held n e cs=some x→cs.length=k→ ∃v:α,cs=row v∧Fit v)
  (hf:DataW.trod enc P w base (fun _=>true) held n t [v]=some y) : ∃(a:Option Addr) (len cap:Nat),v= .slice a len cap∧dO row k Fit w a len cap:=by
 rcases open_slice ht hf with h0 | ⟨x,l,c,m,n,D,Pl,Ff,hb,hl,hm,hmm,hx,hi⟩
 ·have Ff:=h0.1;injection Ff with Ff;exact ⟨none,0,0,Ff,by omega,by unfold maxLen; omega,[],rfl,by simp,J6.nil _ _ _⟩
 ·injection Ff with Ff;rw [hC] at hi;obtain ⟨f,vX⟩:=choose_lt (α:=α) (p:=fun i v=>w.cells? base (x.add (i*k)) k=some (row v)∧Fit v) (n:=l) (fun i EB=>by
   obtain ⟨cs',h1,h2⟩:=hi i (by rw [hmm]; simp; omega);obtain ⟨v,rfl,Ds⟩:=htr _ _ _ h2 (World.cells?_some h1).2.1;exact ⟨v,h1,Ds⟩)
  refine ⟨some x,l,c,by simpa using Ff,by simpa using hl,hm,(List.range l).map f,by simp,fun v hv=>?_,fun h0=>?_⟩
  ·obtain ⟨i,Mh,rfl⟩:=List.mem_map.1 hv;exact (vX i (by simpa using Mh)).2
  ·simp at h0;obtain ⟨b,off,spot⟩:=x;have Od:=(World.cells?_some (vX 0 h0).1).2.2 0 hp;rw [Jo] at Od;have hl0:0 < (row (f 0)).length:=by rw [hk]; exact hp
   rw [Zf hl0] at Od;have hs:spot=none:=by
    have:=World.cell?_spot Od;simpa [Addr.add] using this
   subst hs;refine ⟨b,off,rfl,fun h=>h,by have:=UH Od; rwa [add_plain,add_plain] at this,fun i v hiv=>?_⟩;simp only [List.getElem?_map] at hiv;have EB:i < l:=by
    rcases Nat.lt_or_ge i l with h | h
    ·exact h
    ·simp [h] at hiv
   simp [EB] at hiv;subst hiv;exact PT (base:=base) (by rw [hk]; exact (vX i EB).1)
theorem open_lstR {t e:ZT}{r:Reach}{b0:Nat}{v:Zo}{d:DataW H}{p:List MemPlace}(ht:P.underlying t=some (.slice e))(hC:P.cellsOf e=k)(hk: ∀v,(row v).length=k)(hp:0 < k)
  (htr: ∀(n:Nat) (cs:List Zo) (x:DataW H × List MemPlace),DataW.trod enc P w base (fun _=>true) held n e cs=some x→cs.length=k→ ∃v:α,cs=row v∧Fit v)
  (hv:Value.okWide P w r b0 t v) (h:DataW.Trod enc P w base (fun _=>true) held t v d p) : ∃(a:Option Addr) (len cap:Nat),v= .slice a len cap∧dO row k Fit w a len cap:=by
 obtain ⟨a,len,cap,rfl⟩:=okWide_slice ht hv;obtain ⟨fuel,hf⟩:=h;exact CW ht hC hk hp htr hf
end
end
section
open Go Go.ChangeShapes Go.WideShapes Go.RowKit Go.Deep
abbrev QO:=Int × Int
def BH (v:QO) :List Zo:= [.int .i64 v.1,.int .i64 v.2]
def JF (v:QO) :Array Zo:=(BH v).toArray
theorem DI (v:QO) :(BH v).length=2:=rfl
theorem MN (v:QO) : ∀u ∈ BH v,u.oneCell'=true:=by
 intro u hu;simp only [BH,Z6,List.not_mem_nil,or_false] at hu
 rcases hu with rfl | rfl <;> rfl
theorem Sb (v:QO) :(JF v).all (·.oneCell')=true:=by
 refine Array.all_eq_true_iff_forall_mem.2 (fun u hu=>MN v u (by simpa [JF] using hu))
theorem Hx:(Tryz.prog.info? 315).map (·.size)=some 2:=by kernel_rfl
theorem Zcm:(Tryz.prog.info? 315).map (fun i=>(i.zero,i.size,i.bytes))=some (some (.agg #[.int .i64 0,.int .i64 0]),2,16):=by kernel_rfl
def X6 (l:List QO) :List Zo:=l.flatMap BH
theorem Uo (l:List QO) :(X6 l).length=l.length*2:=by
 induction l with
 | nil=>rfl
 | cons x l ih=>simp only [X6,QJ,ZN,DI,Yu] at ih ⊢; omega
theorem Hq (l m:List QO) :X6 (l++m)=X6 l++X6 m:=by simp [X6]
theorem aZ (v:QO) :X6 [v]=(BH v):=by simp [X6]
theorem eP {l:List QO}{i:Nat}{v:QO}(h:l[i]?=some v){j:Nat}(hj:j < 2) :(X6 l)[i*2+j]?=(BH v)[j]?:=by
 induction l generalizing i with
 | nil=>simp at h
 | cons x l ih=>
  cases i with
  | zero=>
   simp at h;subst h;simp only [X6,QJ,Jo,Yb];rw [YD (by rw [DI]; exact hj)]
  | succ i=>
   simp only [J7] at h;have:=ih h;simp only [X6,QJ] at this ⊢;rw [YV (by rw [DI]; omega),DI,show (i+1)*2+j - 2=i*2+j by omega];exact this
theorem OI {w:Zc}{b off:Nat}{l:List QO}(h: ∀j u,(X6 l)[j]?=some u→w.cell? ⟨b,off+j,none⟩=some u){i:Nat}{v:QO}(hi:l[i]?=some v) :w.rangeAt b (off+i*2) (BH v):=by
 intro j u hu;have hj:j < 2:=(Zh.1 hu).1;rw [Jy];exact h _ _ ((eP hi hj).trans hu)
section
variable {P:YZ} {ops:Array Oper} {rest:List Oper} {op:Oper} {a:Act} {w:Zc} {Q:Exit→Act→Zc→Prop}
theorem BP (BU:op.guard=none)(ty:ZT)(x:Operand)(ho:op.op= .load ty x)
  (b o:Nat) (hx:a.eval x= .pointer (some ⟨b,o,none⟩)) (v:QO) (d:TypeDesc) (hc:w.rangeAt b o (BH v))
  (hu:P.underlying ty=some d) (hd:d.isRow=true) (hi:(P.info? ty).map (·.size)=some 2)
  (h:wpList P ops Q rest (a.put op.dst (.agg (JF v))) w) :wpList P ops Q (op::rest) a w:=
 wpList_load_mid BU ty x ho b o hx (BH v) d hc hu hd hi h
end
structure OpV where
 due:Bool
 ep:Int
 it:Int
deriving Inhabited
def zX (x:OpV) :List Zo:= [.bool x.due,.int .i64 x.ep,.int .i64 x.it]
def jy (x:OpV) :Array Zo:=(zX x).toArray
theorem Zy.op {w:Zc}{g t:Nat}{x:OpV}(h:Zy w g t (jy x)) :w.rangeAt g 0 (zX x):=fun j u hu=>by
 rw [Yb,h.cell j];simpa [jy] using hu
end
section
open Go Go.RowKit
section
variable {α:Type} {row:α→List Zo} {k:Nat} {w w':Zc} {a:Option Addr} {l:List α} {S T:Nat→Prop}
def Kh (row:α→List Zo)(k:Nat)(a:Option Addr)(l:List α) :Zc→(Nat→Prop)→Prop:=fun w S=>J6 row k w (fun i=> ¬S i) a l∧ ∀i,S i→i < w.heap.size
theorem Lo:Xa (Kh row k a l):=by
 refine ⟨fun w S h=>h.2,fun w w' S T h hk hT=>⟨?_,fun i hi=>Nat.lt_of_lt_of_le (h.2 i hi) hk.size⟩⟩;exact h.1.same hk.size fun b hb hn=>hk.block b hb (hT b (Classical.not_not.1 hn))
theorem Kh.apart (h:Kh row k a l w S)(hT: ∀i,S i→ ¬T i) :J6 row k w T a l:=h.1.more fun i _ hi=>fun hs=>hT i hs hi
theorem Kh.nil (w:Zc)(a:Option Addr) :Kh row k a ([] :List α) w (fun _=>False):=⟨J6.nil _ _ _,fun _ h=>h.elim⟩
theorem J6.drop {b off:Nat}(h:J6 row k w S (some ⟨b,off,none⟩) l)(n:Nat) :J6 row k w S (some ⟨b,off+n*k,none⟩) (l.drop n):=fun h0=>by
 obtain ⟨b',ZfS,h1,h2,h3,h4⟩:=h (by rw [List.length_drop] at h0; omega);obtain ⟨rfl,rfl⟩ :b=b'∧off=ZfS:=by
  have:=Option.some.inj h1;injection this with e1 e2;exact ⟨e1,e2⟩
 refine ⟨b,off+n*k,rfl,h2,h3,fun i v hi=>?_⟩;rw [List.getElem?_drop] at hi;have:=h4 (n+i) v hi;rwa [show off+(n+i)*k=off+n*k+i*k by rw [Nat.add_mul]; omega] at this
end
end
end Go.Proofs.YtianiiijaopdpaaGreat
