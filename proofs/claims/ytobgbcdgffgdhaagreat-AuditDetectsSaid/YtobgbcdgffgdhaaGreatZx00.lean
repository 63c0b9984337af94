/- Rules of lists, several in one. -/
import Derived.Calls
import Derived.Below
namespace Go.Proofs.YtobgbcdgffgdhaaGreat
open Go
structure Dq (p:Prop) :Prop where
  o:p
def Zj (p:Prop) :Prop:=p
theorem Zj.o {p:Prop}(h:Zj p) :p:=h
theorem Za {p:Prop}(h:p) :Zj p:=h
theorem qS {α:Type} :(∀(l:List α) (i:Nat) (v:α),l.toArray.setIfInBounds i v=(l.set i v).toArray)/\(∀(l:List α) (a b:α),(a::l).set 0 b=b::l)/\(∀(l:List α) (i:Nat) (a b:α),(a::l).set (i+1) b=a::l.set i b):=⟨fun _ _ _=>by simp,fun _ _ _=>rfl,fun _ _ _ _=>rfl⟩
theorem qG {α:Type} :(∀(l:List α) (i:Nat) (h:i < l.toArray.size),l.toArray[i]=l[i]'(by simpa using h))/\(∀(l:List α) (a:α) (h:0 < (a::l).length),(a::l)[0]=a)/\(∀(l:List α) (i:Nat) (a:α) (h:i+1 < (a::l).length),(a::l)[i+1]=l[i]'(by simpa using h)):=⟨fun _ _ _=>rfl,fun _ _ _=>rfl,fun _ _ _ _=>rfl⟩
theorem qD {α:Type} :(∀(l:List α) (i:Nat) (a:α),(a::l).drop (i+1)=l.drop i)/\(∀(l:List α),l.drop 0=l):=⟨fun _ _ _=>rfl,fun _=>rfl⟩
theorem qT {α:Type} :(∀(l:List α) (i:Nat) (a:α),(a::l).take (i+1)=a::l.take i)/\(∀(l:List α),l.take 0=[]):=⟨fun _ _ _=>rfl,fun _=>rfl⟩
theorem qF {α β:Type} :(∀(f:α->Option β) (a:α) (l:List α),(a::l).filterMap f=match f a with | none=>l.filterMap f | some b=>b::l.filterMap f)/\(∀(f:α->Option β),([] :List α).filterMap f=[]):=⟨fun _ _ _=>List.filterMap_cons ..,fun _=>rfl⟩
theorem qH {α:Type} :(∀(l:List α) (i:Nat),l.toArray[i]?=l[i]?)/\(∀(l:List α) (a:α),(a::l)[0]?=some a)/\(∀(l:List α) (i:Nat) (a:α),(a::l)[i+1]?=l[i]?):=⟨fun _ _=>by simp,fun _ _=>rfl,fun _ _ _=>rfl⟩
theorem qA:(∀(a:Act) (d:Option Tmp)(v:Value),a.put d v=match d with | some d=> { a with tmps:=a.tmps.setIfInBounds d v} | none=>a)/\(∀ {α:Type} (l:List α) (i:Nat) (h:i < l.toArray.size),l.toArray[i]=l[i]'(by simpa using h))/\(∀ {α:Type} (l:List α) (a:α) (h:0 < (a::l).length),(a::l)[0]=a)/\(∀ {α:Type} (l:List α) (i:Nat) (a:α) (h:i+1 < (a::l).length),(a::l)[i+1]=l[i]'(by simpa using h))/\(∀ {α:Type} (l:List α) (i:Nat) (v:α),l.toArray.setIfInBounds i v=(l.set i v).toArray)/\(∀ {α:Type} (l:List α) (a b:α),(a::l).set 0 b=b::l)/\(∀ {α:Type} (l:List α) (i:Nat) (a b:α),(a::l).set (i+1) b=a::l.set i b)/\(∀ {α:Type} (l:List α) (i:Nat) (a:α),(a::l).drop (i+1)=l.drop i)/\(∀ {α:Type} (l:List α),l.drop 0=l):=⟨fun _ _ _=>rfl,fun _ _ _=>rfl,fun _ _ _=>rfl,fun _ _ _ _=>rfl,fun _ _ _=>by simp,fun _ _ _=>rfl,fun _ _ _ _=>rfl,fun _ _ _=>rfl,fun _=>rfl⟩
theorem qB:(∀(a:Act) (d:Option Tmp)(v:Value),a.put d v=match d with | some d=> { a with tmps:=a.tmps.setIfInBounds d v} | none=>a)/\(∀ {α:Type} (l:List α) (i:Nat) (v:α),l.toArray.setIfInBounds i v=(l.set i v).toArray)/\(∀ {α:Type} (l:List α) (a b:α),(a::l).set 0 b=b::l)/\(∀ {α:Type} (l:List α) (i:Nat) (a b:α),(a::l).set (i+1) b=a::l.set i b):=⟨fun _ _ _=>rfl,fun _ _ _=>by simp,fun _ _ _=>rfl,fun _ _ _ _=>rfl⟩
end Go.Proofs.YtobgbcdgffgdhaaGreat
