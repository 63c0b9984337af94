/- Part 17 of 58: L03RefCheck. -/
import Derived.Test.YtianiiijaopdpaaGreatZu00
import Derived.Test.YtianiiijaopdpaaGreatZu05
import Derived.Test.YtianiiijaopdpaaGreatZu15
namespace Go.Proofs.YtianiiijaopdpaaGreat
set_option linter.unusedVariables false
set_option linter.unusedSimpArgs false
set_option maxRecDepth 100000
set_option maxHeartbeats 8000000
open _root_.Go.Lib renaming hid → Za
open _root_.Go.Proofs.Tryz renaming underlying24 → ZC
theorem Zg5 {G:Prop} (h:G:=by
  obtain rfl:k=20:=by omega
  have H:=Lib.hid (aD hbf);go_wp2;go_ret;exact ⟨FE H.out.symm,PO⟩) :G:=h
section
open Go.RowKit
theorem Xn:(Tryz.prog.info? 24).map (·.size)=some 20:=by kernel_rfl
theorem Ij (c:Nat→Int)(w:World) :
  Calls Tryz.prog 10 #[.agg (Zk c)] w fun e w'=>e= .returned (.int .i64 (P6 c))∧Below w.heap.size w w':=by
 unfold Zk;go_enter Tryz.func10,Tryz.ntmps10;go_wp2;go_loopw [3] (fun v wr=> ∃k:Nat,k≤20∧v= .int .i64 ((k:Int)+1)∧Dh c k∧Zy wr w.heap.size 24 (Zk c)∧Below w.heap.size w wr) (fun v _=>(21 - intOf v).toNat)
 case atStart=>exact ⟨0,by omega,rfl,Hj c,Zy.new _ _ _,(Below.refl _ _).alloc (Nat.le_refl _) _⟩
 case round=>
  obtain ⟨k,hk,rfl,hbf,hb,PO⟩:=hrel;have XJ:=hb.lt
  by_cases vL:k < 20
  ·cases hr:Yz c k with
   | false=>
    have R:Hid (∀w',_):=Za (fun w'=>AG c k vL w');rw [hr] at R;have H:=Za (en vL hbf hr);clear hr;go_wp2_with (first
     | (refine wpList_load_row rfl 24 _ rfl w.heap.size rfl 24 _ (0,0) _ hb ZC rfl Xn ?_)
     | (go_at_call 34; refine (R.out _).mono ?_; rintro e w1 ⟨rfl,EO⟩))
    go_ret;exact ⟨FE H.out.symm,RX PO EO Zp⟩
   | true=>
    have R:Hid (∀w',_):=Za (fun w'=>AG c k vL w');rw [hr] at R;have H:=Za (Hi hbf hr);clear hr;go_wp2_with (first
     | (refine wpList_load_row rfl 24 _ rfl w.heap.size rfl 24 _ (0,0) _ hb ZC rfl Xn ?_)
     | (go_at_call 34; refine (R.out _).mono ?_; rintro e w1 ⟨rfl,EO⟩))
    go_roundw
    case rel=>exact ⟨k+1,by omega,by go_num,H.out,hb.below EO XJ,RX PO EO Zp⟩
    case measure=>simp [intOf]; omega
  ·exact Zg5
end
end Go.Proofs.YtianiiijaopdpaaGreat
