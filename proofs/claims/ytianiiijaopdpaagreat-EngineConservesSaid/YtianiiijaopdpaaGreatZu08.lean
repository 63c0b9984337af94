/- Part 8 of 58: Kept Fam. -/
import Derived.Test.YtianiiijaopdpaaGreatZu00
import Derived.Test.YtianiiijaopdpaaGreatZu03
import Derived.Laws.CopyOwn
import Derived.Lib.SliceRun
namespace Go.Proofs.YtianiiijaopdpaaGreat
set_option linter.unusedVariables false
set_option linter.unusedSimpArgs false
set_option maxRecDepth 100000
set_option maxHeartbeats 8000000
open _root_.Go.Builtin renaming firstCells → Gz, zeroCells → Xb
open _root_.Nat renaming lt_of_lt_of_le → Yp
open _root_.Go.Oper renaming wp → Q8
open _root_.Go.Result renaming andThen → Xd
open _root_.Go renaming TypeId → ZT, Value → Zo, World → Zc, run_underlying → Y3, setRow_heap → Yc, splice → Vc
theorem ZaG {G:Prop} (h:G:=by
  rw [fput_other hln] at Uq;exact h.ap j l Zp Zp Df i hi Uq) :G:=h
section
open Go.RowKit
structure Kept (S:Nat→Prop)(w w':Zc) :Prop where
 os:w'.os=w.os
 tape:w'.tape=w.tape
 output:w'.output=w.output
 size:w.heap.size≤w'.heap.size
 block: ∀i,i < w.heap.size→ ¬S i→w'.heap[i]?=w.heap[i]?
section
variable {S T:Nat→Prop} {a w w' c:Zc} {B g:Nat} {t:ZT} {cs:Array Zo}
theorem Kept.refl (S:Nat→Prop)(w:Zc) :Kept S w w:=⟨rfl,rfl,rfl,Nat.le_refl _,fun _ _ _=>rfl⟩
theorem Kept.trans (h:Kept S a w)(k:Kept T w c)(hT: ∀i,i < a.heap.size→T i→S i) :Kept S a c:=
 ⟨k.os.trans h.os,k.tape.trans h.tape,k.output.trans h.output,Nat.le_trans h.size k.size,fun i hi hn=>(k.block i (Yp hi h.size) (fun ht=>hn (hT i hi ht))).trans (h.block i hi hn)⟩
theorem Kept.drewN (h:Kept S a w)(n:Nat) :Kept S a (w.drewN n):=⟨h.os,h.tape,h.output,h.size,h.block⟩
theorem Kept.drew (h:Kept S a w) :Kept S a w.drew:=⟨h.os,h.tape,h.output,h.size,h.block⟩
theorem Kept.alloc (h:Kept S a w)(o:Obj) :Kept S a (w.alloc o):=
 ⟨h.os,h.tape,h.output,Nat.le_trans h.size ZO,fun i hi hn=>(Below.heap_alloc w o i (Yp hi h.size)).trans (h.block i hi hn)⟩
theorem Kept.setCell (h:Kept S a w){p:Addr}(hp:S p.block∨a.heap.size≤p.block)(u:Zo) :Kept S a (w.setCell p u):=
 ⟨h.os,h.tape,h.output,by simpa [World.setCell] using h.size,fun i hi hn=>(Below.heap_setCell w p u i (by
  rintro rfl
  rcases hp with hp | hp
  ·exact hn hp
  ·omega)).trans (h.block i hi hn)⟩
theorem Kept.setRow (h:Kept S a w){g:Nat}(hp:S g∨a.heap.size≤g)(cs:Array Zo) :Kept S a (w.setRow g cs):=
 ⟨h.os,h.tape,h.output,by simpa using h.size,fun i hi hn=>(setRow_other w g i cs (by
  rintro rfl
  rcases hp with hp | hp
  ·exact hn hp
  ·omega)).trans (h.block i hi hn)⟩
theorem Kept.below (hb:Below B a w)(h:Kept S w w')(hS: ∀i,S i→B≤i)(hB:B≤w.heap.size) :Below B a w':=
 hb.trans ⟨h.os,h.tape,h.output,h.size,fun i hi=>h.block i Zp (fun hs=>by have:=hS i hs; omega)⟩
theorem Kept.of_below (h:Below a.heap.size a w) :Kept S a w:=⟨h.os,h.tape,h.output,h.size,fun i hi _=>h.block i hi⟩
theorem Kept.of_grown {row:Option Nat}(h:a.grownBy w row)(hr: ∀i,some i=row→S i) :Kept S a w:=⟨h.os,h.tape,h.output,h.size,fun i hi hn=>h.block i hi (fun e=>hn (hr i e))⟩
theorem Kept.more (h:Kept S a w)(hS: ∀i,i < a.heap.size→S i→T i) :Kept T a w:=⟨h.os,h.tape,h.output,h.size,fun i hi hn=>h.block i hi (fun hs=>hn (hS i hi hs))⟩
theorem Kept.more_new (h:Kept (fun i=>i=a.heap.size) a w) :Kept T a w:=h.more fun i hi e=>by omega
theorem Zy.kept (h:Zy w g t cs)(k:Kept S w w')(hg: ¬S g) :Zy w' g t cs:=(k.block g h.lt hg).trans h
theorem Kept.cell (k:Kept S w w'){p:Addr}(hp: ¬S p.block){v:Zo}(h:w.cell? p=some v) :w'.cell? p=some v:=
 (World.cell?_of_block (w:=w) (k.block p.block (UH h) hp)).trans h
theorem Kept.frozen (k:Kept S w w'){p:Addr}(hp: ¬S p.block)(hb:p.block < w.heap.size) :w'.frozen? p=w.frozen? p:=World.frozen?_of_block (w:=w) (k.block p.block hb hp)
theorem Kept.grown {row:Option Nat}(h:Kept (fun _=>False) a w)(hg:w.grownBy w' row)(hr: ∀i,row=some i→a.heap.size≤i) :Kept (fun _=>False) a w':=
 h.trans (T:=fun i=>row=some i) ⟨hg.os,hg.tape,hg.output,hg.size,fun i hi hn=>hg.block i hi (fun e=>hn e.symm)⟩ (fun i hi e=>by have:=hr i e; omega)
theorem Zy.setRow (h:Zy w g t cs)(cs':Array Zo) :Zy (w.setRow g cs') g t cs':=Yc w g cs cs' t (0,0) h
theorem Zy.setRow_far (h:Zy w g t cs){k:Nat}(hk:g≠k)(cs':Array Zo) :Zy (w.setRow k cs') g t cs:=(setRow_other w k g cs' hk).trans h
theorem Zy.ne_ {g':Nat}{t':ZT}{cs':Array Zo}(h:Zy w g t cs)(h':Zy w g' t' cs')(Kt:t≠t') :g≠g':=by
 rintro rfl;unfold Zy at h h';rw [h] at h';injection h' with h';injection h' with _ ht;exact Kt ht
end
section
variable {P:Program}
theorem WD (w:Zc)(dT sT ty elem:ZT)(g o PN eu:Nat)(a:Addr)(PV gH k:Nat)(cur:Array Zo)(t:ZT)(cs:List Zo)
  (hu:P.underlying dT=some (.slice elem)) (hs:(P.info? elem).map (·.size)=some k)
  (hg:w.heap[g]?=some (.cells cur t (0,0))) (hn:cs.length=Nat.min PV PN*k)
  (Em: ∀j v,cs[j]?=some v→w.cell? (a.add j)=some v) (Ds:o+cs.length≤cur.size) (h1: ∀v ∈ cs,v.oneCell'=true) :
  (Builtin.copy_ #[dT,sT] ty #[.slice (some ⟨g,o,none⟩) PN eu,.slice (some a) PV gH]).run P w= .ok (goInt (Nat.min PV PN)) (w.setRow g (Vc cur.toList o cs).toArray):=by
 have hl:=run_loadCells_list (P:=P) w a cs Em;have Gm:=run_storeCells_at P g o t cs 0 cur w hg (by simpa using Ds) h1
 cases hq:P.info? elem with
 | none=>simp [hq] at hs
 | some i=>
  have hi:i.size=k:=by simpa [hq] using hs
  rw [hn] at hl;simp [Builtin.copy_,Y3 hu,Builtin.lenOf,Gz,sizeOf,typeInfo,hq,hi,hl,Gm,Vc]
theorem Tz (w:Zc)(dT sT ty elem:ZT)(d a:Option Addr)(PN eu PV gH:Nat)(hu:P.underlying dT=some (.slice elem))(hs:((P.info? elem).map (·.size)).isSome=true)(hn:Nat.min PV PN=0) :
  (Builtin.copy_ #[dT,sT] ty #[.slice d PN eu,.slice a PV gH]).run P w= .ok (goInt 0) w:=by
 cases hq:P.info? elem with
 | none=>simp [hq] at hs
 | some i=>
  have hl: ∀(x:Addr),(loadCells x 0).run P w= .ok #[] w:=fun x=>by simpa using run_loadCells_list (P:=P) w x [] ZO
  cases d <;> cases a <;> simp [Builtin.copy_,Y3 hu,Builtin.lenOf,Gz,sizeOf,typeInfo,hq,hn,storeCells,hl]
theorem Xf {w:Zc}{ops:Array Oper}{rest:List Oper}{o:Oper}{a:Act}{Q:Exit→Act→Zc→Prop}(BU:o.guard=none)(d s:Operand)(dT sT:ZT)
  (ho:o.op= .call { callee:= .builtin .copy,args:= #[d,s],argTypes:= #[dT,sT]}) (elem:ZT) (hu:P.underlying dT=some (.slice elem)) (k:Nat) (hk:0 < k) (Du:(P.info? elem).map (·.size)=some k)
  (dp sp:Option Addr) (PN eu PV gH:Nat) (hd:a.eval d= .slice dp PN eu) (hs:a.eval s= .slice sp PV gH)
  (g off:Nat) (cur:List Zo) (t:ZT) (hg:w.heap[g]?=some (.cells cur.toArray t (0,0))) (cs:List Zo) (m:Nat) (hm:m=Nat.min PV PN) (hn:cs.length=m*k)
  (SI:0 < cs.length→dp=some ⟨g,off,none⟩∧ ∃ad,sp=some ad∧ ∀j v,cs[j]?=some v→w.cell? (ad.add j)=some v)
  (Ds:off+cs.length≤cur.length) (h1: ∀v ∈ cs,v.oneCell'=true)
  (h: ∀w',Hid (w'.heap[g]?=some (.cells (Vc cur off cs).toArray t (0,0)))→Kept (fun i=>i=g) w w'→w'.heap.size=w.heap.size→wpList P ops Q rest (a.put o.dst (goInt m)) w') :
  wpList P ops Q (o::rest) a w:=by
 refine wpList_plain BU fun K hK=>?_
 subst hm
 by_cases h0:cs.length=0
 ·obtain rfl:cs=[]:=List.eq_nil_of_length_eq_zero h0;have hz:Nat.min PV PN=0:=by
   simp only [List.length_nil] at hn
   rcases Nat.mul_eq_zero.1 hn.symm with h2 | h2
   ·exact h2
   ·omega
  have Bd:=Tz (P:=P) w dT sT o.type elem dp sp PN eu PV gH hu (by rw [Du]; rfl) hz;unfold Q8;simp [execOp,ho,resolve,invoke,builtin,hd,hs,Bd,Xd];have:=h w (show _=_ by simpa [Vc] using hg) (Kept.refl _ _) rfl;rw [hz] at this;exact hK _ _ this
 ·obtain ⟨rfl,ad,rfl,Em⟩:=SI Zp;have Bd:=WD (P:=P) w dT sT o.type elem g off PN eu ad PV gH k cur.toArray t cs hu Du hg hn Em (by simpa using Ds) h1;unfold Q8;simp [execOp,ho,resolve,invoke,builtin,hd,hs,Bd,Xd];exact hK _ _ (h _ (show _=_ by simpa using Yc w g _ _ t _ hg) (Kept.setRow (S:=fun i=>i=g) (Kept.refl _ _) (.inl rfl) _) ZO)
theorem Ty (w:Zc)(T ty elem:ZT)(z:Zo)(hu:P.underlying T=some (.slice elem))(hv: ∀w,(zeroValue elem).run P w= .ok z w)(h1: ∀v ∈ z.cells.toList,v.oneCell'=true)(g o n c:Nat)(hn:0 < n)(cur:Array Zo)(t:ZT)
  (hg:w.heap[g]?=some (.cells cur t (0,0))) (Ds:o+n*z.cells.size≤cur.size) :
  (Builtin.clear_ #[T] ty #[.slice (some ⟨g,o,none⟩) n c]).run P w= .ok (.tuple #[]) (w.setRow g (Vc cur.toList o (Xb z.cells n).toList).toArray):=by
 have hlen:(Xb z.cells n).toList.length=n*z.cells.size:=by simp [Xb]
 have qp: ∀v ∈ (Xb z.cells n).toList,v.oneCell'=true:=by
  intro v wF;simp only [Xb,Array.toList_map,List.mem_map,Array.toList_range,List.mem_range] at wF;obtain ⟨i,hi,rfl⟩:=wF;have SI:0 < z.cells.size:=by
   rcases Nat.eq_zero_or_pos z.cells.size with h0 | h0
   ·rw [h0,Nat.mul_zero] at hi; omega
   ·exact h0
  have XJ:i%z.cells.size < z.cells.size:=Nat.mod_lt _ SI;refine h1 _ ?_;rw [getElem!_pos z.cells _ XJ];exact Array.getElem_mem_toList XJ
 have Gm:=run_storeCells_at P g o t (Xb z.cells n).toList 0 cur w hg (by simp only [Nat.add_zero]; rw [hlen]; exact Ds) qp;obtain ⟨m,rfl⟩ : ∃m,n=m+1:=⟨n - 1,by omega⟩;simp only [Nat.add_zero] at Gm;simp [Builtin.clear_,Y3 hu,hv,Gm,Vc]
theorem Ex {w:Zc}{ops:Array Oper}{rest:List Oper}{o:Oper}{a:Act}{Q:Exit→Act→Zc→Prop}(BU:o.guard=none)(s:Operand)(T:ZT)
  (ho:o.op= .call { callee:= .builtin .clear,args:= #[s],argTypes:= #[T]}) (elem:ZT) (hu:P.underlying T=some (.slice elem)) (z:Zo) (hv: ∀w,(zeroValue elem).run P w= .ok z w) (h1: ∀v ∈ z.cells.toList,v.oneCell'=true)
  (g off n c:Nat) (hs:a.eval s= .slice (some ⟨g,off,none⟩) n c) (hn:0 < n) (cur:List Zo) (t:ZT) (hg:w.heap[g]?=some (.cells cur.toArray t (0,0))) (Ds:off+n*z.cells.size≤cur.length)
  (h: ∀w',Hid (w'.heap[g]?=some (.cells (Vc cur off (Xb z.cells n).toList).toArray t (0,0)))→Kept (fun i=>i=g) w w'→wpList P ops Q rest (a.put o.dst (.tuple #[])) w') :
  wpList P ops Q (o::rest) a w:=by
 refine wpList_plain BU fun K hK=>?_
 have Bd:=Ty (P:=P) w T o.type elem z hu hv h1 g off n c hn cur.toArray t hg (by simpa using Ds);unfold Q8;simp [execOp,ho,resolve,invoke,builtin,hs,Bd,Xd];exact hK _ _ (h _ (show _=_ by simpa using Yc w g _ _ t _ hg) (Kept.setRow (S:=fun i=>i=g) (Kept.refl _ _) (.inl rfl) _))
end
end
section
open Go.RowKit
def Xa (p:Zc→(Nat→Prop)→Prop) :Prop:=(∀w S,p w S→ ∀i,S i→i < w.heap.size)∧ ∀w w' S T,p w S→Kept T w w'→(∀i,S i→ ¬T i)→p w' S
structure Fam (n:Nat)(P:Nat→Zc→(Nat→Prop)→Prop)(Φ:Nat→Nat→Prop)(w:Zc) :Prop where
 part: ∀k,k < n→P k w (Φ k)
 lt: ∀k,k < n→ ∀i,Φ k i→i < w.heap.size
 ap: ∀j k,j < n→k < n→j≠k→ ∀i,Φ j i→ ¬Φ k i
def BZ (Φ:Nat→Nat→Prop)(k:Nat)(S:Nat→Prop) :Nat→Nat→Prop:=fun j=>if j=k then S else Φ j
section
variable {n:Nat} {P P':Nat→Zc→(Nat→Prop)→Prop} {Φ:Nat→Nat→Prop} {w w':Zc} {S' T:Nat→Prop}
theorem Xe (k:Nat) :BZ Φ k S' k=S':=if_pos rfl
theorem fput_other {j k:Nat}(h:j≠k) :BZ Φ k S' j=Φ j:=if_neg h
theorem Fam.kept (h:Fam n P Φ w)(hP: ∀j,j < n→Xa (P j))(hk:Kept T w w')(hT: ∀k,k < n→ ∀i,Φ k i→ ¬T i) :Fam n P Φ w':=
 ⟨fun k ET=>(hP k ET).2 w w' _ T (h.part k ET) hk (hT k ET),fun k ET i hi=>Yp (h.lt k ET i hi) hk.size,h.ap⟩
theorem Fam.below (h:Fam n P Φ w)(hP: ∀j,j < n→Xa (P j))(hb:Below w.heap.size w w') :Fam n P Φ w':=
 h.kept hP (Kept.of_below (S:=fun _=>False) hb) (fun _ _ _ _ h=>h)
theorem Fam.turn (h:Fam n P Φ w)(hP: ∀j,j < n→Xa (P j)){k:Nat}(hk:k < n)(GS: ∀j,j < n→j≠k→P' j=P j)(vQ:Xa (P' k))(hn:P' k w' S')(hS: ∀i,S' i→Φ k i∨w.heap.size≤i)
  (hkp:Kept (Φ k) w w') :Fam n P' (BZ Φ k S') w':=by
 refine ⟨fun j hj=>?_,fun j hj i hi=>?_,fun j l hj hl Df i hi Uq=>?_⟩
 ·by_cases ER:j=k
  ·subst ER; rw [Xe]; exact hn
  ·rw [fput_other ER,GS j hj ER];exact (hP j hj).2 w w' _ _ (h.part j hj) hkp (h.ap j k hj hk ER)
 ·by_cases ER:j=k
  ·subst ER; rw [Xe] at hi; exact vQ.1 w' S' hn i hi
  ·rw [fput_other ER] at hi;exact Yp (h.lt j hj i hi) hkp.size
 ·by_cases ER:j=k
  ·subst ER;rw [Xe] at hi;rw [fput_other (fun e=>Df e.symm)] at Uq
   rcases hS i hi with h1 | h1
   ·exact h.ap j l hj hl Df i h1 Uq
   ·exact absurd (h.lt l hl i Uq) Zp
  ·rw [fput_other ER] at hi
   by_cases Ml:l=k
   ·subst Ml;rw [Xe] at Uq
    rcases hS i Uq with h1 | h1
    ·exact h.ap j l hj hl ER i hi h1
    ·exact absurd (h.lt j hj i hi) Zp
   ·rw [fput_other Ml] at Uq;exact h.ap j l hj hl Df i hi Uq
theorem Fam.turn2 (h:Fam n P Φ w)(hP: ∀j,j < n→Xa (P j)){k m:Nat}(hk:k < n)(hm:m < n)(hkm:k≠m)(GS: ∀j,j < n→j≠k→j≠m→P' j=P j)(hPk:Xa (P' k))(hPm:Xa (P' m)){R':Nat→Prop}
  (tR:P' k w' S') (jk:P' m w' R') (hS: ∀i,S' i→Φ k i∨w.heap.size≤i) (hR: ∀i,R' i→Φ m i) (hSR: ∀i,S' i→ ¬R' i)
  (hkp:Kept T w w') (hT: ∀i,T i→Φ k i∨Φ m i) :Fam n P' (BZ (BZ Φ k S') m R') w':=by
 have base: ∀j,j < n→j≠k→j≠m→ ∀i,Φ j i→ ¬T i:=fun j hj h1 h2 i hi ht=>by
  rcases hT i ht with h3 | h3
  ·exact h.ap j k hj hk h1 i hi h3
  ·exact h.ap j m hj hm h2 i hi h3
 have at1:BZ (BZ Φ k S') m R' k=S':=by rw [fput_other hkm,Xe]
 have at2:BZ (BZ Φ k S') m R' m=R':=Xe m;have at3: ∀j,j≠k→j≠m→BZ (BZ Φ k S') m R' j=Φ j:=fun j h1 h2=>by rw [fput_other h2,fput_other h1]
 have Qi: ∀j,j < n→j≠k→j≠m→ ∀i,Φ j i→ ¬S' i∧ ¬R' i:=fun j hj h1 h2 i hi=>⟨fun hs=>by
  rcases hS i hs with h3 | h3
  ·exact h.ap j k hj hk h1 i hi h3
  ·exact absurd (h.lt j hj i hi) Zp,fun hr=>h.ap j m hj hm h2 i hi (hR i hr)⟩
 refine ⟨fun j hj=>?_,fun j hj i hi=>?_,fun j l hj hl Df i hi Uq=>?_⟩
 ·by_cases h1:j=k
  ·subst h1; rw [at1]; exact tR
  ·by_cases h2:j=m
   ·subst h2; rw [at2]; exact jk
   ·rw [at3 j h1 h2,GS j hj h1 h2];exact (hP j hj).2 w w' _ _ (h.part j hj) hkp (base j hj h1 h2)
 ·by_cases h1:j=k
  ·subst h1; rw [at1] at hi; exact hPk.1 w' S' tR i hi
  ·by_cases h2:j=m
   ·subst h2; rw [at2] at hi; exact hPm.1 w' R' jk i hi
   ·rw [at3 j h1 h2] at hi;exact Yp (h.lt j hj i hi) hkp.size
 ·by_cases h1:j=k
  ·subst h1;rw [at1] at hi
   by_cases h2:l=m
   ·subst h2; rw [at2] at Uq; exact hSR i hi Uq
   ·rw [at3 l (fun e=>Df e.symm) h2] at Uq;exact (Qi l hl (fun e=>Df e.symm) h2 i Uq).1 hi
  ·by_cases h2:j=m
   ·subst h2;rw [at2] at hi
    by_cases h3:l=k
    ·subst h3; rw [at1] at Uq; exact hSR i Uq hi
    ·rw [at3 l h3 (fun e=>Df e.symm)] at Uq;exact (Qi l hl h3 (fun e=>Df e.symm) i Uq).2 hi
   ·rw [at3 j h1 h2] at hi
    by_cases h3:l=k
    ·subst h3; rw [at1] at Uq; exact (Qi j hj h1 h2 i hi).1 Uq
    ·by_cases h4:l=m
     ·subst h4; rw [at2] at Uq; exact (Qi j hj h1 h2 i hi).2 Uq
     ·rw [at3 l h3 h4] at Uq;exact h.ap j l hj hl Df i hi Uq
theorem Fam.more (h:Fam n P Φ w)(hP: ∀j,j < n→Xa (P j))(vQ:Xa (P' n))(GS: ∀j,j < n→P' j=P j)(hn:P' n w' S')(hS: ∀i,S' i→w.heap.size≤i)(hb:Below w.heap.size w w') :Fam (n+1) P' (BZ Φ n S') w':=by
 have k:=h.below hP hb;refine ⟨fun j hj=>?_,fun j hj i hi=>?_,fun j l hj hl Df i hi Uq=>?_⟩
 ·by_cases Da:j=n
  ·subst Da; rw [Xe]; exact hn
  ·rw [fput_other Da,GS j Zp]; exact k.part j Zp
 ·by_cases Da:j=n
  ·subst Da; rw [Xe] at hi; exact vQ.1 w' S' hn i hi
  ·rw [fput_other Da] at hi; exact k.lt j Zp i hi
 ·by_cases Da:j=n
  ·subst Da;rw [Xe] at hi;rw [fput_other (fun e=>Df e.symm)] at Uq;have:=h.lt l Zp i Uq;have:=hS i hi;omega
  ·rw [fput_other Da] at hi
   by_cases hln:l=n
   ·subst hln;rw [Xe] at Uq;have:=h.lt j Zp i hi;have:=hS i Uq;omega
   ·exact ZaG
theorem Fam.put (h:Fam n P Φ w)(GS: ∀j,j < n→P' j=P j)(hn:P' n w S')(hl: ∀i,S' i→i < w.heap.size)(hd: ∀k,k < n→ ∀i,Φ k i→ ¬S' i) :Fam (n+1) P' (BZ Φ n S') w:=by
 refine ⟨fun j hj=>?_,fun j hj i hi=>?_,fun j l hj hl' Df i hi Uq=>?_⟩
 ·by_cases Da:j=n
  ·subst Da; rw [Xe]; exact hn
  ·rw [fput_other Da,GS j Zp]; exact h.part j Zp
 ·by_cases Da:j=n
  ·subst Da; rw [Xe] at hi; exact hl i hi
  ·rw [fput_other Da] at hi; exact h.lt j Zp i hi
 ·by_cases Da:j=n
  ·subst Da;rw [Xe] at hi;rw [fput_other (fun e=>Df e.symm)] at Uq;exact hd l Zp i Uq hi
  ·rw [fput_other Da] at hi
   by_cases hln:l=n
   ·subst hln;rw [Xe] at Uq;exact hd j Zp i hi Uq
   ·exact ZaG
theorem Fam.less (h:Fam (n+1) P Φ w)(GS: ∀j,j < n→P' j=P j) :Fam n P' Φ w:=
 ⟨fun j hj=>by rw [GS j hj]; exact h.part j Zp,fun j hj=>h.lt j Zp,fun j k hj hk=>h.ap j k Zp Zp⟩
theorem Fam.remap {M:Nat}(h:Fam M P Φ w)(f:Nat→Nat)(hf: ∀k,k < n→f k < M)(eX: ∀j k,j < n→k < n→f j=f k→j=k)(hP: ∀k,k < n→P' k=P (f k)) :Fam n P' (fun k=>Φ (f k)) w:=
 ⟨fun k hk=>by rw [hP k hk]; exact h.part _ (hf k hk),fun k hk=>h.lt _ (hf k hk),fun j k hj hk ER=>h.ap _ _ (hf j hj) (hf k hk) fun e=>ER (eX j k hj hk e)⟩
theorem Fam.zero:Fam 0 P Φ w:=⟨fun k hk=>by omega,fun k hk=>by omega,fun j k hj=>by omega⟩
theorem By {b t:Nat}{cs:Array Zo} :Xa fun w S=>Zy w b t cs∧ ∀i,S i ↔ i=b:=
 ⟨fun w S h i hi=>by rw [(h.2 i).1 hi]; exact h.1.lt,fun w w' S T h hk hT=>⟨h.1.kept hk (hT b ((h.2 b).2 rfl)),h.2⟩⟩
end
end
end Go.Proofs.YtianiiijaopdpaaGreat
