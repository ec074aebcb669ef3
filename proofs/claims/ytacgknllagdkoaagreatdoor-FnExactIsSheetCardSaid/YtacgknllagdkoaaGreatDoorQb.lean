/-
 Texts of this seat in one module: RowB, Ints, SpB, MapM, Dir, MapI, MapJ, MapK, StepA, StepB, Step, MapS.
-/
import Derived.Laws.MakeOwn
import Derived.Deep.QuietTactic
import Derived.BigQuiet
import Derived.RegionTactic
import Derived.BigRegion
import Derived.Deep.RegionHeld3
import Derived.Test.YtacgknllagdkoaaGreatDoorQa
/-
 What a function says that returns a new list of hexes and true, or none and false; small facts on slices of hexes that a call owns.
-/
namespace Go.Proofs.YtacgknllagdkoaaGreatDoor
open Go.RowKit
/-- A new list of hexes and true, or none and false. -/
theorem grown_set (w:World) (g j:Nat) (u:Value):w.grownBy (w.setCell ⟨g,j,none⟩ u) (some g) :=
 ⟨rfl,rfl,rfl,by simp,fun k _ hk=>heap_setCell_other w ⟨g,j,none⟩ k u (fun e=>hk (by simp [e]))⟩
end Go.Proofs.YtacgknllagdkoaaGreatDoor
/-
 Slices of integers as lists: copying one, comparing two that hold the same list, marking one that the call owns.
-/
namespace Go.Proofs.YtacgknllagdkoaaGreatDoor
open Go.RowKit
/-- The slice v reads as the list l of integers. -/
def RdI (w:World) (v:Value) (l:List Int):Prop :=
 ∃ A c,v=.slice A l.length c∧(0<l.length→∃ g off,A=some ⟨g,off,none⟩∧∀ i x,l[i]?=some x→w.cell? ⟨g,off+i,none⟩=some (.int .i64 x))
theorem RdI.keep {w w':World} {v:Value} {l:List Int} (h:RdI w v l) (hk:Kp w w'):RdI w' v l:=by
 obtain⟨A,c,rfl,h⟩:=h
 refine⟨A,c,rfl,fun h0=>?_⟩
 obtain⟨g,off,rfl,hc⟩:=h h0
 exact⟨g,off,rfl,fun i x hx=>hk.cell (hc i x hx)⟩
def cellsI (l:List Int):List Value:=l.map fun x=>.int .i64 x
def OwnI (w:World) (base:Nat) (v:Value) (l:List Int):Prop:=w.ownsRow base 3 1 v l.length (cellsI l)
theorem OwnI.rd {w:World} {base:Nat} {v:Value} {l:List Int} (h:OwnI w base v l):RdI w v l:=by
 rcases h.2 with ⟨rfl,hn⟩ | ⟨g,cap,cur,rfl,hb,hg,hc,hm,hs,ht⟩
 ·exact⟨none,0,by rw [hn],fun h0=>by omega⟩
 ·refine⟨_,_,rfl,fun _=>⟨g,0,rfl,fun i x hx=>?_⟩⟩
  have hi:i<l.length:=(List.getElem?_eq_some_iff.1 hx).1
  rw [Nat.zero_add]
  exact(World.ownsRow.cellAt h i (by omega)).trans (by simp [cellsI,hx])
theorem OwnI.keep {w w':World} {base:Nat} {v:Value} {l:List Int} (h:OwnI w base v l) (hk:Kp w w'):OwnI w' base v l:=ownsRow_keep h hk
theorem infoInt:(Tryz.prog.info? 3).map (fun i=>(i.zero,i.size,i.bytes))=some (some (.int .i64 0),1,8):=by kernel_rfl
theorem mkInts (n:Nat) (hn:n≤1048576) (w:World) :
  (Instr.makeSlice 26 (.int .i64 (n:Int)) (.int .i64 (n:Int))).run Tryz.prog w=.ok (.slice (some ⟨w.heap.size,0,none⟩) n n) (w.alloc (.cells (madeCells #[.int .i64 0] n) 3)):=by
 obtain⟨i,hi,hz,hs,hb⟩:=info_parts infoInt
 have hr:=run_make (P:=Tryz.prog) w 26 3 i (.int .i64 0) Tryz.underlying26 hi hz .i64 .i64 (n:Int) (n:Int) (by omega) (Int.le_refl _) (by rw [hb];omega) (by omega)
 rw [hs,Int.toNat_natCast,Nat.mul_one] at hr
 exact hr
theorem toIntS_any (v:Value) (l:List Int) (w:World) (h:RdI w v l) (hl:l.length≤1048576) :
  Calls Tryz.prog 51 #[v] w fun e w'=>∃ v',e=.returned v'∧OwnI w' w.heap.size v' l∧Kp w w':=by
 obtain⟨A,c,rfl,h⟩:=h
 have HA:=Lib.hid h
 clear h
 obtain⟨n,hn⟩:∃ n,l.length=n:=⟨_,rfl⟩
 have HN:=Lib.hid hn
 rw [hn] at hl ⊢
 rw [hn] at HA
 clear hn
 have hmk:=fun w=>mkInts n hl w
 have own0:(w.alloc (.cells (madeCells #[.int .i64 0] n) 3)).ownsRow w.heap.size 3 1 (.slice (some ⟨w.heap.size,0,none⟩) n n) n (madeCells #[.int .i64 0] n).toList :=
  World.ownsRow_lit w _ n (Nat.le_refl _) (by simp only [maxLen];omega) (by rw [size_madeCells,Nat.mul_one])
 go_enter Tryz.func51,Tryz.ntmps51
 go_wp2_with fail
 go_loopw [4] (fun i wr=>∃ k:Nat,k≤n∧i=.int .i64 k∧(∃ ys,wr.ownsRow w.heap.size 3 1 (.slice (some ⟨w.heap.size,0,none⟩) n n) n ys∧∀ j x,j<k→l[j]?=some x→ys[j]?=some (.int .i64 x))∧Kp w wr) (fun i _=>n - (intOf i).toNat)
 case atStart=>exact⟨0,by omega,rfl,⟨_,own0,fun j x hj=>absurd hj (by omega)⟩,(Kp.refl _).alloc _⟩
 case round =>
  clear own0
  obtain⟨k,hk,rfl,⟨ys,ho,hys⟩,kr⟩:=hrel
  have HY:=Lib.hid hys
  clear hys
  by_cases hlt:k<n
  ·have hlt':(k:Int)<n:=by omega
   obtain⟨g,off,rfl,hc⟩:=HA.out (by omega)
   obtain⟨x,hx⟩:∃ x,l[k]?=some x:=⟨l[k]'(by have:=HN.out;omega),List.getElem?_eq_getElem _⟩
   have a0:=kr.cell (hc k x hx)
   have HX:=Lib.hid hx
   have hlen:ys.length=n*1:=ho.1
   obtain⟨u0,hu0⟩:∃ u,wr.cell? ⟨w.heap.size,k,none⟩=some u:=⟨_,(ho.cellAt k (by omega)).trans (List.getElem?_eq_getElem (by omega))⟩
   have f0:=ho.frozenAt k
   have HLen:=Lib.hid hlen
   clear hc hx hlen
   go_wp2_with fail
   go_roundw
   case rel =>
    obtain⟨o1,g1⟩:=ho.stored k (.int .i64 x)
    refine⟨k+1,by omega,by go_num,⟨_,o1,fun j y hj hy=>?_⟩,kr.setCell (by simp) _⟩
    rw [List.getElem?_set]
    by_cases e:k=j
    ·subst e
     rw [HX.out] at hy
     obtain rfl:=Option.some.inj hy
     have:=HLen.out
     rw [if_pos rfl,if_pos (by omega)]
    ·rw [if_neg e]
     exact HY.out j y (by omega) hy
   case measure=>simp [intOf];omega
  ·obtain rfl:k=n:=by omega
   go_wp2_with fail
   go_ret
   have e:ys=cellsI l:=by
    apply List.ext_getElem?
    intro j
    have hl1:ys.length=k*1:=ho.1
    have hl2:=HN.out
    by_cases hj:j<k
    ·have hx:l[j]?=some (l[j]'(by omega)):=List.getElem?_eq_getElem _
     rw [HY.out j _ hj hx]
     simp [cellsI,hx]
    ·rw [List.getElem?_eq_none (by omega),List.getElem?_eq_none (by simp [cellsI];omega)]
   refine⟨_,rfl,?_,kr⟩
   unfold OwnI
   rw [HN.out,← e]
   exact ho
theorem eqIntS_same (va vb:Value) (l:List Int) (w:World) (ha:RdI w va l) (hb:RdI w vb l) (hl:l.length≤1048576) :
  Calls Tryz.prog 47 #[va,vb] w fun e w'=>e=.returned (.bool true)∧Kp w w':=by
 obtain⟨A,ca,rfl,ha⟩:=ha
 obtain⟨B,cb,rfl,hb⟩:=hb
 have HA:=Lib.hid ha
 have HB:=Lib.hid hb
 clear ha hb
 generalize hn:l.length=n at *
 have HN:=Lib.hid hn
 clear hn
 go_enter Tryz.func47,Tryz.ntmps47
 go_wp2_with fail
 go_loopw [5] (fun i wr=>∃ k:Nat,k≤n∧i=.int .i64 k∧Kp w wr) (fun i _=>n - (intOf i).toNat)
 case atStart=>exact⟨0,by omega,rfl,Kp.refl _⟩
 case round =>
  obtain⟨k,hk,rfl,kr⟩:=hrel
  by_cases hlt:k<n
  ·obtain⟨ga,oa,rfl,ca'⟩:=HA.out (by omega)
   obtain⟨gb,ob,rfl,cb'⟩:=HB.out (by omega)
   obtain⟨x,hx⟩:∃ x,l[k]?=some x:=⟨l[k]'(by have:=HN.out;omega),List.getElem?_eq_getElem _⟩
   have a0:=kr.cell (ca' k x hx)
   have b0:=kr.cell (cb' k x hx)
   clear ca' cb' hx
   have hlt':(k:Int)<n:=by omega
   go_wp2_with fail
   go_quiet (fail)
   go_wp2_with fail
   go_roundw
   case rel=>exact⟨k+1,by omega,by go_num,kr.drewN _⟩
   case measure=>simp [intOf];omega
  ·obtain rfl:k=n:=by omega
   go_wp2_with fail
   go_ret
   exact⟨rfl,kr⟩
theorem markIntS_any (v:Value) (n base:Nat) (xs:List Value) (w:World) (hn:n≤1048576) (hown:w.ownsRow base 3 1 v n xs) :
  Calls Tryz.prog 48 #[v,.int .i64 1] w fun e w'=>e=.returned (.int .i64 (1+n))∧w.grownBy w' v.ownBlock:=by
 rcases hown.2 with ⟨rfl,rfl⟩ | ⟨g,cap,cur,rfl,_⟩
 ·go_enter Tryz.func48,Tryz.ntmps48
  go_wp2_with fail
  go_loop [1,5] (fun k i=>k=.int .i64 1∧i=.int .i64 0) (fun _ _=>0)
  case atStart=>exact⟨rfl,rfl⟩
  case round =>
   obtain⟨rfl,rfl⟩:=hrel
   go_wp2_with fail
   go_ret
   exact⟨rfl,World.grownBy.refl w _⟩
 ·go_enter Tryz.func48,Tryz.ntmps48
  go_wp2_with fail
  go_loopw [1,5] (fun kk i wr=>∃ t:Nat,t≤n∧i=.int .i64 t∧kk=.int .i64 (1+t)∧(∃ ys,wr.ownsRow base 3 1 (.slice (some ⟨g,0,none⟩) n cap) n ys)∧w.grownBy wr (some g)) (fun _ i _=>n - (intOf i).toNat)
  case atStart=>exact⟨0,by omega,rfl,by simp,⟨_,hown⟩,World.grownBy.refl w _⟩
  case round =>
   obtain⟨t,ht,rfl,rfl,⟨ys,ho⟩,hg⟩:=hrel
   by_cases hlt:t<n
   ·have hlt':(t:Int)<n:=by omega
    have hlen:ys.length=n*1:=ho.1
    obtain⟨u0,hu0⟩:∃ u,wr.cell? ⟨g,t,none⟩=some u:=⟨_,(ho.cellAt t (by omega)).trans (List.getElem?_eq_getElem (by omega))⟩
    have f0:=ho.frozenAt t
    clear hlen
    go_wp2_with fail
    go_roundw
    case rel =>
     obtain⟨o1,g1⟩:=ho.stored t (.int .i64 (1+t))
     exact⟨t+1,by omega,by go_num,by go_num,⟨_,o1⟩,hg.trans g1⟩
    case measure=>simp [intOf];omega
   ·obtain rfl:t=n:=by omega
    go_wp2_with fail
    go_ret
    exact⟨rfl,hg⟩
def isI64 (x:Int):Prop:=-9223372036854775808≤x∧x≤9223372036854775807
theorem OwnI.far {w:World} {base:Nat} {v:Value} {l:List Int} (h:OwnI w base v l) {g j:Nat} (hne:v.ownBlock ≠ some g) (u:Value):OwnI (w.setCell ⟨g,j,none⟩ u) base v l :=
 World.ownsRow.kept h (grown_set w g j u) (.inr hne)
theorem OwnI.base {w:World} {base b:Nat} {v:Value} {l:List Int} (h:OwnI w base v l) (hb:b≤base):OwnI w b v l:=by
 refine⟨h.1,?_⟩
 rcases h.2 with h | ⟨g,cap,cur,h1,h2,h3⟩
 ·exact .inl h
 ·exact .inr ⟨g,cap,cur,h1,by omega,h3⟩
theorem OwnI.not {w:World} {base:Nat} {v:Value} {l:List Int} (h:OwnI w base v l) {g:Nat} (hg:g<base):v.ownBlock ≠ some g:=fun e=>by
 have:=(World.ownsRow.lt h g e).1
 omega
theorem OwnI.slice {w:World} {base:Nat} {v:Value} {l:List Int} (h:OwnI w base v l):∃ A c,v=.slice A l.length c:=by
 obtain⟨A,c,rfl,_⟩:=h.rd
 exact⟨A,c,rfl⟩
theorem szIntS_yes (A:Option Addr) (n c:Nat) (left:Int) (w:World) (h:(n:Int)≤left) (h0:0≤left) (h1:left≤1048576) :
  Calls Tryz.prog 61 #[.slice A n c,.int .i64 left] w fun e w'=>e=.returned (.int .i64 (left - n))∧w=w':=by
 go_enter Tryz.func61,Tryz.ntmps61
 go_wp2
 go_ret
 exact⟨rfl,rfl⟩
theorem szIntS_no (A:Option Addr) (n c:Nat) (left:Int) (w:World) (h:left<n) (h0:0≤left) (h1:left≤1048576) (hn:n≤9223372036854775807) :
  Calls Tryz.prog 61 #[.slice A n c,.int .i64 left] w fun e w'=>e=.returned (.int .i64 (-1))∧w=w':=by
 go_enter Tryz.func61,Tryz.ntmps61
 go_wp2
 go_ret
 exact⟨rfl,rfl⟩
end Go.Proofs.YtacgknllagdkoaaGreatDoor
/-
 The reference's tests of numbers within a range, one and all of a list.
-/
namespace Go.Proofs.YtacgknllagdkoaaGreatDoor
open Go.RowKit
theorem drop_step {α:Type} {l:List α} {k:Nat} {x:α} (h:l[k]?=some x):l.drop k=x :: l.drop (k+1):=by
 obtain⟨hk,rfl⟩:=List.getElem?_eq_some_iff.1 h
 exact List.drop_eq_getElem_cons hk
theorem all_no {f:Int→Bool} {x:Int} {l:List Int} (h:f x=false):(x :: l).all f=false:=by simp [h]
theorem all_go {f:Int→Bool} {x:Int} {l:List Int} (h:f x=true):(x :: l).all f=l.all f:=by simp [h]
theorem l1All_any (v:Value) (l:List Int) (lo hi:Int) (w:World) (h:RdI w v l) (hl:l.length≤1048576) :
  Calls Tryz.prog 121 #[v,.int .i64 lo,.int .i64 hi] w fun e w'=>e=.returned (.bool (l.all fun n=>decide (lo≤n) && decide (n≤hi)))∧w=w':=by
 obtain⟨A,cp,rfl,h⟩:=h
 have HA:=Lib.hid h
 obtain⟨f,hf⟩:∃ f:Int→Bool,f=fun n=>decide (lo≤n) && decide (n≤hi):=⟨_,rfl⟩
 have CI:∀ n w,Calls Tryz.prog 63 #[.int .i64 n,.int .i64 lo,.int .i64 hi] w fun e w'=>e=.returned (.bool (f n))∧w=w':=fun n w=>by rw [hf];exact l1In_gen n lo hi w
 have HC:=Lib.hid CI
 rw [← hf]
 obtain⟨R,hR⟩:∃ R,R=l.all f:=⟨_,rfl⟩
 rw [← hR]
 have HR:=Lib.hid hR
 clear h hR CI hf
 generalize hn:l.length=n at *
 have HN:=Lib.hid hn
 clear hn
 go_enter Tryz.func121,Tryz.ntmps121
 go_wp2_with fail
 go_loop [8,11] (fun _ i=>∃ k:Nat,k≤n∧i=.int .i64 k∧Hid ((l.drop k).all f=R)) (fun _ i=>n - (intOf i).toNat)
 case atStart=>exact⟨0,by omega,rfl,Lib.hid HR.out.symm⟩
 case round =>
  obtain⟨k,hk,rfl,hE⟩:=hrel
  by_cases hlt:k<n
  ·obtain⟨g,off,rfl,hc⟩:=HA.out (by omega)
   obtain⟨x,hx⟩:∃ x,l[k]?=some x:=⟨l[k]'(by have:=HN.out;omega),List.getElem?_eq_getElem _⟩
   have a0:=hc k x hx
   have HX:=Lib.hid (drop_step hx)
   clear hc hx
   have hlt':(k:Int)<n:=by omega
   cases hok:f x
   ·go_wp2_with fail
    refine(HC.out _ _).mono ?_
    rintro e1 wy ⟨rfl,rfl⟩
    go_wp2_with fail
    go_ret
    have e:R=false:=by rw [← hE.out,HX.out];exact all_no hok
    exact⟨ret_bool e.symm,rfl⟩
   ·have HE2:Hid ((l.drop (k+1)).all f=R):=Lib.hid (by rw [← hE.out,HX.out];exact(all_go hok).symm)
    go_wp2_with fail
    refine(HC.out _ _).mono ?_
    rintro e1 wy ⟨rfl,rfl⟩
    go_wp2_with fail
    go_round
    case rel=>exact⟨k+1,by omega,by go_num,HE2⟩
    case measure=>simp [intOf];omega
  ·obtain rfl:k=n:=by omega
   go_wp2_with fail
   go_ret
   refine⟨ret_bool ?_,rfl⟩
   rw [← hE.out,List.drop_of_length_le (by rw [HN.out];omega)]
   rfl
theorem l1In_sp (n lo hi:Int) (w:World) :
  Calls Tryz.prog 63 #[.int .i64 n,.int .i64 lo,.int .i64 hi] w fun e w'=>e=.returned (.bool (spB lo hi n))∧w=w':=l1In_gen n lo hi w
theorem l1All_sp (v:Value) (l:List Int) (lo hi:Int) (w:World) (h:RdI w v l) (hl:l.length≤1048576) :
  Calls Tryz.prog 121 #[v,.int .i64 lo,.int .i64 hi] w fun e w'=>e=.returned (.bool (l.all (spB lo hi)))∧w=w':=l1All_any v l lo hi w h hl
theorem upto_more {f:Nat→Bool} {k:Nat} (h:f k=true) (hn:∀ j,j<k→f j=true):∀ j,j<k+1→f j=true:=fun j hj=>by
 rcases Nat.lt_or_ge j k with h1 | h1
 ·exact hn j h1
 ·obtain rfl:j=k:=by omega
  exact h
end Go.Proofs.YtacgknllagdkoaaGreatDoor
/-
 Maps as plain numbers and lists: indices, neighbours, edges, valid maps. No program is looked into.
-/
namespace Go.Proofs.YtacgknllagdkoaaGreatDoor
open Go.RowKit
def sideB (n:Int):Bool:=decide (1≤n) && decide (n≤10)
def terrB (n:Int):Bool:=decide (0≤n) && decide (n≤5)
def dirB (d:Int):Bool:=decide (0≤d) && decide (d≤5)
def onI (W H i:Int):Bool:=decide (0≤i) && decide (i<W*H)
def inM (W H q r:Int):Bool:=(decide (0≤q) && decide (q<W)) && (decide (0≤r) && decide (r<H))
def idxM (W q r:Int):Int:=r*W+q
def nbQ (W i d:Int):Int:=i % W+dirQ d
def nbR (W i d:Int):Int:=i / W+dirR d
def nbM (W H i d:Int):Bool:=inM W H (nbQ W i d) (nbR W i d)
def nbB (W H i d:Int):Bool:=onI W H i && (dirB d && nbM W H i d)
def nbI (W i d:Int):Int:=idxM W (nbQ W i d) (nbR W i d)
def edgI (W i d:Int):Int:=if d<3 then 3*i+d else 3*nbI W i d+d - 3
def edgeB (W H e:Int):Bool:=nbB W H (e.tdiv 3) (e.tmod 3)
def riseFrom:Int→List Int→Bool
 | _,[]=>true
 | p,x :: l=>decide (p<x) && riseFrom x l
def edgesFrom (W H:Int):Int→List Int→Bool
 | _,[]=>true
 | p,x :: l=>edgeB W H x && (decide (p<x) && edgesFrom W H x l)
def edgesOk (W H:Int) (l:List Int):Bool:=edgesFrom W H (-1) l
def mapOk (W H:Int) (lt lr ld:List Int):Bool :=
 sideB W && (sideB H && (decide ((lt.length:Int)=W*H) && (lt.all terrB && (edgesOk W H lr && edgesOk W H ld))))
theorem sideB_true {n:Int} (h:sideB n=true):1≤n∧n≤10:=by simpa [sideB] using h
theorem onI_true {W H i:Int} (h:onI W H i=true):0≤i∧i<W*H:=by simpa [onI] using h
theorem onI_mk {W H i:Int} (h:0≤i) (h':i<W*H):onI W H i=true:=by simp [onI,h,h']
theorem dirB_true {d:Int} (h:dirB d=true):0≤d∧d≤5:=by simpa [dirB] using h
theorem dirB_mk {d:Int} (h:0≤d) (h':d≤5):dirB d=true:=by simp [dirB,h,h']
theorem inM_true {W H q r:Int} (h:inM W H q r=true):0≤q∧q<W∧0≤r∧r<H:=by
 simp only [inM,Bool.and_eq_true,decide_eq_true_eq] at h
 exact⟨h.1.1,h.1.2,h.2.1,h.2.2⟩
theorem inM_mk {W H q r:Int} (a:0≤q) (b:q<W) (c:0≤r) (d:r<H):inM W H q r=true:=by simp [inM,a,b,c,d]
theorem area_bd {W H:Int} (a:1≤W) (b:W≤10) (c:1≤H) (d:H≤10):1≤W*H∧W*H≤100:=by
 have h1:0≤(W - 1)*(H - 1):=Int.mul_nonneg (by omega) (by omega)
 have h2:0≤(10 - W)*(10 - H):=Int.mul_nonneg (by omega) (by omega)
 have h3:0≤(10 - W)*(H - 1):=Int.mul_nonneg (by omega) (by omega)
 simp only [Int.sub_mul,Int.mul_sub] at h1 h2 h3
 omega
theorem mul_bd {W r:Int} (a:1≤W) (b:W≤10) (c:-20≤r) (d:r≤200):-200≤r*W∧r*W≤2000:=by
 have h1:0≤(r+20)*W:=Int.mul_nonneg (by omega) (by omega)
 have h2:0≤(200 - r)*W:=Int.mul_nonneg (by omega) (by omega)
 simp only [Int.sub_mul,Int.add_mul] at h1 h2
 omega
theorem hex_bd {W H i:Int} (a:1≤W) (b:W≤10) (h0:0≤i) (h:i<W*H):0≤i % W∧i % W<W∧0≤i / W∧i / W<H:=by
 refine⟨Int.emod_nonneg _ (by omega),Int.emod_lt_of_pos _ (by omega),Int.ediv_nonneg h0 (by omega),?_⟩
 exact Int.ediv_lt_of_lt_mul (by omega) (by rw [Int.mul_comm];exact h)
theorem idx_bd {W H q r:Int} (h:inM W H q r=true):0≤idxM W q r∧idxM W q r<W*H:=by
 obtain⟨a,b,c,d⟩:=inM_true h
 have h1:0≤r*W:=Int.mul_nonneg (by omega) (by omega)
 have h2:0≤(H - 1 - r)*W:=Int.mul_nonneg (by omega) (by omega)
 simp only [Int.sub_mul] at h2
 rw [Int.mul_comm W H]
 unfold idxM
 omega
theorem edgeB_nat {W H e:Int} (h:0≤e):edgeB W H e=nbB W H (e / 3) (e % 3):=by
 unfold edgeB
 rw [Int.tdiv_eq_ediv_of_nonneg h,Int.tmod_eq_emod_of_nonneg h]
theorem edgeB_neg {W H e:Int} (h:e<0):edgeB W H e=false:=by
 unfold edgeB nbB
 by_cases h1:e.tdiv 3<0
 ·have:onI W H (e.tdiv 3)=false:=by unfold onI;simp;omega
  simp [this]
 ·have:dirB (e.tmod 3)=false:=by
   unfold dirB
   have:=Int.mul_tdiv_add_tmod e 3
   simp
   omega
  simp [this]
theorem edgeB_big {W H e:Int} (h:3*(W*H)≤e) (h0:0≤e):edgeB W H e=false:=by
 rw [edgeB_nat h0]
 have:onI W H (e / 3)=false:=by unfold onI;simp;omega
 simp [nbB,this]
theorem edgeB_in {W H e:Int} (h0:0≤e) (h:e<3*(W*H)):edgeB W H e=nbM W H (e / 3) (e % 3):=by
 rw [edgeB_nat h0]
 have h1:onI W H (e / 3)=true:=onI_mk (by omega) (by omega)
 have h2:dirB (e % 3)=true:=dirB_mk (by omega) (by omega)
 simp [nbB,h1,h2]
theorem edgesFrom_eq (W H:Int):∀ (p:Int) (l:List Int),edgesFrom W H p l=(l.all (edgeB W H) && riseFrom p l)
 | _,[]=>rfl
 | p,x :: l=>by
  simp only [edgesFrom,riseFrom,List.all_cons,edgesFrom_eq W H x l]
  cases edgeB W H x <;> cases decide (p<x) <;> simp
theorem edgesOk_eq (W H:Int) (l:List Int):edgesOk W H l=(l.all (edgeB W H) && riseFrom (-1) l):=edgesFrom_eq W H _ _
end Go.Proofs.YtacgknllagdkoaaGreatDoor
/-
 The six directions: the table of the program and the two lists of the reference hold the same steps; the functions on neighbours return what plain functions on integers say, and change nothing that was there.
-/
namespace Go.Proofs.YtacgknllagdkoaaGreatDoor
open Go.RowKit
theorem isDirection_any (n:Int) (w:World) :
  Calls Tryz.prog 218 #[.int .i64 n] w fun e w'=>e=.returned (.bool (decide (0≤n) && decide (n≤5)))∧w=w':=by
 by_cases h1:0≤n
 ·by_cases h2:n<6
  ·have h3:n≤5:=by omega
   go_enter Tryz.func218,Tryz.ntmps218
   go_wp2
   go_ret
   exact⟨ret_bool (by simp [h1,h3]),rfl⟩
  ·have h3:¬ n≤5:=by omega
   go_enter Tryz.func218,Tryz.ntmps218
   go_wp2
   go_ret
   exact⟨ret_bool (by simp;omega),rfl⟩
 ·go_enter Tryz.func218,Tryz.ntmps218
  go_wp2
  go_ret
  exact⟨ret_bool (by simp;omega),rfl⟩
/-- The program's table of directions, as its text lays it. -/
def Tab (w:World):Prop:=∀ d:Nat,d<6→w.cell? ⟨9,d*2,none⟩=some (.int .i64 (dirQ d))∧w.cell? ⟨9,d*2+1,none⟩=some (.int .i64 (dirR d))
theorem Tab.keep {w w':World} (h:Tab w) (hk:Kp w w'):Tab w':=fun d hd=>⟨hk.cell (h d hd).1,hk.cell (h d hd).2⟩
end Go.Proofs.YtacgknllagdkoaaGreatDoor
/-
 The program's small functions on maps return what plain functions on integers say, and change nothing that was there.
-/
namespace Go.Proofs.YtacgknllagdkoaaGreatDoor
open Go.RowKit
abbrev mp (W H:Int) (t r d:Value):Value:=.agg #[.int .i64 W,.int .i64 H,t,r,d]
theorem isSide_any (n:Int) (w:World) :
  Calls Tryz.prog 245 #[.int .i64 n] w fun e w'=>e=.returned (.bool (sideB n))∧w=w':=by
 by_cases h1:1≤n
 ·by_cases h2:n≤10
  ·go_enter Tryz.func245,Tryz.ntmps245
   go_wp2
   go_ret
   exact⟨ret_bool (by simp [sideB,h1,h2]),rfl⟩
  ·go_enter Tryz.func245,Tryz.ntmps245
   go_wp2
   go_ret
   exact⟨ret_bool (by simp [sideB];omega),rfl⟩
 ·go_enter Tryz.func245,Tryz.ntmps245
  go_wp2
  go_ret
  exact⟨ret_bool (by simp [sideB];omega),rfl⟩
theorem isTerrain_any (n:Int) (w:World) :
  Calls Tryz.prog 246 #[.int .i64 n] w fun e w'=>e=.returned (.bool (terrB n))∧w=w':=by
 by_cases h1:0≤n
 ·by_cases h2:n<6
  ·go_enter Tryz.func246,Tryz.ntmps246
   go_wp2
   go_ret
   exact⟨ret_bool (by simp [terrB];omega),rfl⟩
  ·go_enter Tryz.func246,Tryz.ntmps246
   go_wp2
   go_ret
   exact⟨ret_bool (by simp [terrB];omega),rfl⟩
 ·go_enter Tryz.func246,Tryz.ntmps246
  go_wp2
  go_ret
  exact⟨ret_bool (by simp [terrB];omega),rfl⟩
theorem countHexes_any (W H:Int) (t r d:Value) (w:World) (a:1≤W) (b:W≤10) (c:1≤H) (e:H≤10) :
  Calls Tryz.prog 160 #[mp W H t r d] w fun e w'=>e=.returned (.int .i64 (W*H))∧Kp w w':=by
 have hb:=area_bd a b c e
 go_enter Tryz.func160,Tryz.ntmps160
 go_wp2
 go_ret
 exact⟨rfl,(Kp.refl _).alloc _⟩
theorem isIndex_any (W H:Int) (t r d:Value) (i:Int) (w:World) (a:1≤W) (b:W≤10) (c:1≤H) (e:H≤10) :
  Calls Tryz.prog 103 #[mp W H t r d,.int .i64 i] w fun e w'=>e=.returned (.bool (onI W H i))∧Kp w w':=by
 by_cases h0:0≤i
 ·by_cases h1:i<W*H
  ·go_enter Tryz.func103,Tryz.ntmps103
   go_wp2_with fail
   refine(countHexes_any _ _ _ _ _ _ a b c e).mono ?_
   rintro e w1 ⟨rfl,k1⟩
   go_wp2
   go_ret
   exact⟨ret_bool (onI_mk h0 h1).symm,((Kp.refl _).alloc _).trans k1⟩
  ·have hd:decide (i<W*H)=false:=by simpa using h1
   go_enter Tryz.func103,Tryz.ntmps103
   go_wp2_with fail
   refine(countHexes_any _ _ _ _ _ _ a b c e).mono ?_
   rintro e w1 ⟨rfl,k1⟩
   go_wp2
   go_ret
   exact⟨ret_bool (by simp [onI];omega),((Kp.refl _).alloc _).trans k1⟩
 ·have hd:decide (0≤i)=false:=by simpa using h0
  go_enter Tryz.func103,Tryz.ntmps103
  go_wp2
  go_ret
  exact⟨ret_bool (by simp [onI];omega),(Kp.refl _).alloc _⟩
theorem hexWithIndex_any (W H:Int) (t r d:Value) (i:Int) (w:World) (a:1≤W) (b:W≤10) (h0:0≤i) (h1:i≤100000) :
  Calls Tryz.prog 223 #[mp W H t r d,.int .i64 i] w fun e w'=>e=.returned (hx (i % W) (i / W))∧Kp w w':=by
 have hW0:W ≠ 0:=by omega
 go_enter Tryz.func223,Tryz.ntmps223
 go_wp2
 go_region
 all_goals
  go_wp2
  exact bodyPost_ret (v:=hx (i % W) (i / W)) (by simp [results,Tryz.results223,go_sem]) rfl ⟨rfl,(((Kp.refl _).alloc _).alloc _).drew⟩
theorem ib_true (x:Int):ib true x=.tuple #[.int .i64 x,.bool true]:=rfl
theorem ib_false (x:Int):ib false x=.tuple #[.int .i64 0,.bool false]:=rfl
theorem indexOfHex_any (W H:Int) (t r d:Value) (hq hr:Int) (w:World) (a:1≤W) (b:W≤10) (c:1≤H) (e:H≤10) :
  Calls Tryz.prog 221 #[mp W H t r d,hx hq hr] w fun e w'=>e=.returned (ib (inM W H hq hr) (idxM W hq hr))∧Kp w w':=by
 by_cases h:0≤hq∧hq<W∧0≤hr∧hr<H
 ·obtain⟨h1,h2,h3,h4⟩:=h
  rw [inM_mk h1 h2 h3 h4,ib_true]
  have hm:=mul_bd a b (r:=hr) (by omega) (by omega)
  unfold idxM
  go_enter Tryz.func221,Tryz.ntmps221
  go_wp2
  go_ret2
  exact⟨rfl,((Kp.refl _).alloc _).alloc _⟩
 ·have hf:inM W H hq hr=false:=by simp [inM];omega
  rw [hf,ib_false]
  clear hf
  go_enter Tryz.func221,Tryz.ntmps221
  go_wp2
  all_goals
   go_ret2
   exact⟨rfl,((Kp.refl _).alloc _).alloc _⟩
end Go.Proofs.YtacgknllagdkoaaGreatDoor
/-
 The program's neighbours and edges of a map return what plain functions on integers say, and change nothing that was there. The table of directions holds what the program's text lays.
-/
namespace Go.Proofs.YtacgknllagdkoaaGreatDoor
open Go.RowKit
theorem keep5 {W0 w w1:World} {b:Nat} {v0 v1 v2 v3 v4:Value} (k:Kp w w1)
  (h:cb5 w b v0 v1 v2 v3 v4 (Kp W0 w)) :
  cb5 w1 b v0 v1 v2 v3 v4 (Kp W0 w1) :=
 ⟨k.cell h.1,k.cell h.2.1,k.cell h.2.2.1,k.cell h.2.2.2.1,k.cell h.2.2.2.2.1,h.2.2.2.2.2.trans k⟩
theorem new5 (w:World) (v0 v1 v2 v3 v4:Value) (T:TypeId) :
  cb5 (w.alloc (.cells #[v0,v1,v2,v3,v4] T)) (w.heap.size) v0 v1 v2 v3 v4 (Kp w (w.alloc (.cells #[v0,v1,v2,v3,v4] T))) :=
 ⟨by simp [go_sem],by simp [go_sem],by simp [go_sem],by simp [go_sem],by simp [go_sem],(Kp.refl _).alloc _⟩
theorem keep7 {W0 w w1:World} {b g o:Nat} {v0 v1 v2 v3 v4 x y:Value} (k:Kp w w1)
  (h:cb5 w b v0 v1 v2 v3 v4 (w.cell? ⟨g,o,none⟩=some x∧w.cell? ⟨g,o+1,none⟩=some y∧Kp W0 w)) :
  cb5 w1 b v0 v1 v2 v3 v4 (w1.cell? ⟨g,o,none⟩=some x∧w1.cell? ⟨g,o+1,none⟩=some y∧Kp W0 w1) :=
 ⟨k.cell h.1,k.cell h.2.1,k.cell h.2.2.1,k.cell h.2.2.2.1,k.cell h.2.2.2.2.1,k.cell h.2.2.2.2.2.1,k.cell h.2.2.2.2.2.2.1,h.2.2.2.2.2.2.2.trans k⟩
theorem isDirection_d (d:Int) (w:World) :
  Calls Tryz.prog 218 #[.int .i64 d] w fun e w'=>e=.returned (.bool (dirB d))∧w=w':=isDirection_any d w
set_option maxHeartbeats 1000000 in
theorem neighbourIndex_yes (W H:Int) (t r d:Value) (i x:Int) (w:World) (a:1≤W) (b:W≤10) (c:1≤H) (e:H≤10) (ht:Tab w) (ho:onI W H i=true) (hd:dirB x=true) :
  Calls Tryz.prog 191 #[mp W H t r d,.int .i64 i,.int .i64 x] w fun e w'=>e=.returned (ib (nbM W H i x) (nbI W i x))∧Kp w w':=by
 obtain⟨h0,h1⟩:=onI_true ho
 obtain⟨d0,d5⟩:=dirB_true hd
 have hA:=area_bd a b c e
 obtain⟨n,rfl⟩:=Int.eq_ofNat_of_zero_le d0
 have bd:=dir_bd n
 have hh:=hex_bd a b h0 h1
 have HT:=Lib.hid ht
 have hn:(n:Int)<6:=by omega
 unfold nbM nbI nbQ nbR
 clear ht
 go_enter Tryz.func191,Tryz.ntmps191
 go_wp2_with fail
 have s0:=new5 w (.int .i64 W) (.int .i64 H) t r d 45
 refine(isIndex_any _ _ _ _ _ _ _ a b c e).mono ?_
 rintro e1 wa ⟨rfl,ka⟩
 have s1:=keep5 ka s0
 clear s0 ka
 obtain⟨t0,t1⟩:=HT.out.keep s1.2.2.2.2.2 n (by omega)
 have s2:cb5 (wa.drew) (w.heap.size) (.int .i64 W) (.int .i64 H) t r d (wa.drew.cell? ⟨9,n*2,none⟩=some (.int .i64 (dirQ n))∧wa.drew.cell? ⟨9,n*2+1,none⟩=some (.int .i64 (dirR n))∧Kp w wa.drew) :=
  ⟨s1.1,s1.2.1,s1.2.2.1,s1.2.2.2.1,s1.2.2.2.2.1,t0,t1,s1.2.2.2.2.2.drew⟩
 go_wp2_with fail
 refine(isDirection_d _ _).mono ?_
 rintro e2 wb ⟨rfl,rfl⟩
 go_wp2_with fail
 go_region_held3 (fun w'=>cb5 w' (w.heap.size) (.int .i64 W) (.int .i64 H) t r d (w'.cell? ⟨9,n*2,none⟩=some (.int .i64 (dirQ n))∧w'.cell? ⟨9,n*2+1,none⟩=some (.int .i64 (dirR n))∧Kp w w')) (first | assumption | exact s2)
  (first
   | (go_at_call 223;refine(hexWithIndex_any _ _ _ _ _ _ _ a b h0 (by omega)).mono ?_;rintro e wc ⟨rfl,kc⟩;have sc:=keep7 kc (by assumption))
   | (go_at_call 222;refine(shifted_any _ _ _ _ _ (by omega) (by omega) (by omega) (by omega) (by omega) (by omega) (by omega) (by omega)).mono ?_;rintro e wd ⟨rfl,kd⟩;have sd:=keep7 kd (by assumption))
   | (go_at_call 221;refine(indexOfHex_any _ _ _ _ _ _ _ _ a b c e).mono ?_;rintro e3 we ⟨rfl,ke⟩;have se:=keep7 ke (by assumption)))
 all_goals
  go_wp2_with fail
  go_ret2
  exact⟨rfl,se.2.2.2.2.2.2.2⟩
theorem neighbourIndex_any (W H:Int) (t r d:Value) (i x:Int) (w:World) (a:1≤W) (b:W≤10) (c:1≤H) (e:H≤10) (ht:Tab w) :
  Calls Tryz.prog 191 #[mp W H t r d,.int .i64 i,.int .i64 x] w fun e w'=>e=.returned (ib (nbB W H i x) (nbI W i x))∧Kp w w':=by
 cases ho:onI W H i
 ·have en:nbB W H i x=false:=by simp [nbB,ho]
  rw [en,ib_false]
  clear en
  go_enter Tryz.func191,Tryz.ntmps191
  go_wp2_with fail
  refine(isIndex_any _ _ _ _ _ _ _ a b c e).mono ?_
  rintro e1 wa ⟨rfl,ka⟩
  go_wp2_with fail
  go_ret2
  exact⟨rfl,((Kp.refl _).alloc _).trans ka⟩
 ·cases hd:dirB x
  ·have en:nbB W H i x=false:=by simp [nbB,hd]
   rw [en,ib_false]
   clear en
   go_enter Tryz.func191,Tryz.ntmps191
   go_wp2_with fail
   refine(isIndex_any _ _ _ _ _ _ _ a b c e).mono ?_
   rintro e1 wa ⟨rfl,ka⟩
   go_wp2_with fail
   refine(isDirection_d _ _).mono ?_
   rintro e2 wb ⟨rfl,rfl⟩
   go_wp2_with fail
   go_ret2
   exact⟨rfl,((Kp.refl _).alloc _).trans ka⟩
  ·have en:nbB W H i x=nbM W H i x:=by simp [nbB,ho,hd]
   rw [en]
   exact neighbourIndex_yes W H t r d i x w a b c e ht ho hd
theorem nbB_true {W H i x:Int} (h:nbB W H i x=true):(0≤i∧i<W*H)∧(0≤x∧x≤5)∧0≤nbI W i x∧nbI W i x<W*H:=by
 simp only [nbB,Bool.and_eq_true] at h
 exact⟨onI_true h.1,dirB_true h.2.1,idx_bd h.2.2⟩
theorem edgeNumber_any (W H:Int) (t r d:Value) (i x:Int) (w:World) (a:1≤W) (b:W≤10) (c:1≤H) (e:H≤10) (ht:Tab w) :
  Calls Tryz.prog 250 #[mp W H t r d,.int .i64 i,.int .i64 x] w fun e w'=>e=.returned (ib (nbB W H i x) (edgI W i x))∧Kp w w':=by
 have HT:=Lib.hid (Tab.keep ht ((Kp.refl w).alloc (.cells #[.int .i64 W,.int .i64 H,t,r,d] 45)))
 have hA:=area_bd a b c e
 clear ht
 cases hn:nbB W H i x
 ·rw [ib_false]
  go_enter Tryz.func250,Tryz.ntmps250
  go_wp2_with fail
  refine(neighbourIndex_any _ _ _ _ _ _ _ _ a b c e HT.out).mono ?_
  rintro e1 wa ⟨rfl,ka⟩
  go_wp2_with fail
  go_ret2
  exact⟨rfl,((Kp.refl _).alloc _).trans ka⟩
 ·rw [ib_true]
  obtain⟨⟨i0,i1⟩,⟨x0,x5⟩,n0,n1⟩:=nbB_true hn
  have hv:vI true (nbI W i x)=nbI W i x:=rfl
  unfold edgI
  by_cases hx:x<3
  ·rw [if_pos hx]
   go_enter Tryz.func250,Tryz.ntmps250
   go_wp2_with fail
   refine(neighbourIndex_any _ _ _ _ _ _ _ _ a b c e HT.out).mono ?_
   rintro e1 wa ⟨rfl,ka⟩
   go_wp2_with fail
   go_ret2
   exact⟨rfl,((Kp.refl _).alloc _).trans ka⟩
  ·rw [if_neg hx]
   go_enter Tryz.func250,Tryz.ntmps250
   go_wp2_with fail
   refine(neighbourIndex_any _ _ _ _ _ _ _ _ a b c e HT.out).mono ?_
   rintro e1 wa ⟨rfl,ka⟩
   go_wp2_with fail
   go_ret2
   exact⟨rfl,((Kp.refl _).alloc _).trans ka⟩
abbrev iib (b:Bool) (x y:Int):Value:=.tuple #[.int .i64 (vI b x),.int .i64 (vI b y),.bool b]
theorem edgeEnds_any (W H:Int) (t r d:Value) (x:Int) (w:World) (a:1≤W) (b:W≤10) (c:1≤H) (e:H≤10) (ht:Tab w) (hx:isI64 x) :
  Calls Tryz.prog 272 #[mp W H t r d,.int .i64 x] w fun e w'=>e=.returned (iib (edgeB W H x) (x / 3) (nbI W (x / 3) (x % 3)))∧Kp w w':=by
 have HT:=Lib.hid (Tab.keep ht ((Kp.refl w).alloc (.cells #[.int .i64 W,.int .i64 H,t,r,d] 45)))
 obtain⟨x1,x2⟩:=hx
 clear ht
 by_cases h0:0≤x
 ·rw [edgeB_nat h0]
  cases hn:nbB W H (x / 3) (x % 3)
  ·go_enter Tryz.func272,Tryz.ntmps272
   go_wp2_with fail
   refine(neighbourIndex_any _ _ _ _ _ _ _ _ a b c e HT.out).mono ?_
   rintro e1 wa ⟨rfl,ka⟩
   go_wp2_with fail
   go_ret3
   exact⟨rfl,((Kp.refl _).alloc _).trans ka⟩
  ·go_enter Tryz.func272,Tryz.ntmps272
   go_wp2_with fail
   refine(neighbourIndex_any _ _ _ _ _ _ _ _ a b c e HT.out).mono ?_
   rintro e1 wa ⟨rfl,ka⟩
   go_wp2_with fail
   go_ret3
   exact⟨rfl,((Kp.refl _).alloc _).trans ka⟩
 ·have hn:=edgeB_neg (W:=W) (H:=H) (e:=x) (by omega)
  rw [hn]
  unfold edgeB at hn
  go_enter Tryz.func272,Tryz.ntmps272
  go_wp2_with fail
  refine(neighbourIndex_any _ _ _ _ _ _ _ _ a b c e HT.out).mono ?_
  rintro e1 wa ⟨rfl,ka⟩
  go_wp2_with fail
  go_ret3
  exact⟨rfl,((Kp.refl _).alloc _).trans ka⟩
end Go.Proofs.YtacgknllagdkoaaGreatDoor
/-
 The program's lists of edges and its test of a map return what plain functions on lists say, and change nothing that was there. The table of directions holds what the program's text lays.
-/
namespace Go.Proofs.YtacgknllagdkoaaGreatDoor
open Go.RowKit
theorem Tab.k5 {w w':World} {b:Nat} {v0 v1 v2 v3 v4:Value} (ht:Tab w)
  (h:cb5 w' b v0 v1 v2 v3 v4 (Kp w w')):Tab w':=ht.keep h.2.2.2.2.2
theorem edgesFrom_no1 {W H p x:Int} {l:List Int} (h:edgeB W H x=false):edgesFrom W H p (x :: l)=false:=by simp [edgesFrom,h]
theorem edgesFrom_no2 {W H p x:Int} {l:List Int} (h:¬ p<x):edgesFrom W H p (x :: l)=false:=by simp [edgesFrom,h]
theorem edgesFrom_go {W H p x:Int} {l:List Int} (h:edgeB W H x=true) (h':p<x):edgesFrom W H p (x :: l)=edgesFrom W H x l:=by simp [edgesFrom,h,h']
/-- The numbers pass a test, and each is greater than the one ahead of it. -/
def incN (f:Int→Bool):Option Int→List Int→Bool
 | _,[]=>true
 | o,x :: l=>f x && ((match o with | none=>true | some q=>decide (q<x)) && incN f (some x) l)
def prvN (l:List Int):Nat→Option Int
 | 0=>none
 | k+1=>l[k]?
theorem incN_some {W H:Int}:∀ (l:List Int) (q:Int),incN (edgeB W H) (some q) l=edgesFrom W H q l
 | [],_=>rfl
 | x :: l,q=>by
  have ih:=incN_some (W:=W) (H:=H) l x
  cases hx:edgeB W H x
  ·rw [edgesFrom_no1 hx];simp [incN,hx]
  ·by_cases hq:q<x
   ·rw [edgesFrom_go hx hq];simp [incN,hx,hq,ih]
   ·rw [edgesFrom_no2 hq];simp [incN,hq]
theorem incN_edges {W H:Int}:∀ l:List Int,incN (edgeB W H) none l=edgesOk W H l
 | []=>rfl
 | x :: l=>by
  have ih:=incN_some (W:=W) (H:=H) l x
  unfold edgesOk
  cases hx:edgeB W H x
  ·rw [edgesFrom_no1 hx];simp [incN,hx]
  ·have h0:-1<x:=by
    by_cases h:x<0
    ·rw [edgeB_neg h] at hx;cases hx
    ·omega
   rw [edgesFrom_go hx h0]
   simp [incN,hx,ih]
set_option maxRecDepth 100000 in
theorem isIncreasing_E (lb:Array Value) (f:Int→Bool) (l:List Int) (v:Value) (W1 w:World) (HP:∀ x ∈ l,∀ w,Kp W1 w→Calls Tryz.prog 271 (#[.int .i64 x]++lb) w fun e w'=>e=.returned (.bool (f x))∧Kp w w') (hk:Kp W1 w) (h:RdI w v l) (hl:l.length≤1048576) :
  Calls Tryz.prog 230 #[v,.func (.func 271) #[] lb] w fun e w'=>e=.returned (.bool (incN f none l))∧Kp w w':=by
 obtain⟨A,cp,rfl,h⟩:=h
 have HA:=Lib.hid h
 have HPP:=Lib.hid HP
 obtain⟨R,hR⟩:∃ R,R=incN f none l:=⟨_,rfl⟩
 rw [← hR]
 have HR:=Lib.hid hR
 clear h HP hR
 generalize hn:l.length=n at *
 have HN:=Lib.hid hn
 clear hn
 go_enter Tryz.func230,Tryz.ntmps230
 go_wp2_with fail
 go_loopw [5,6,9] (fun _ _ i wr=>∃ k:Nat,k≤n∧i=.int .i64 k∧Hid (incN f (prvN l k) (l.drop k)=R)∧Kp w wr) (fun _ _ i _=>n - (intOf i).toNat)
 case atStart=>exact⟨0,by omega,rfl,Lib.hid (by rw [HR.out];rfl),Kp.refl _⟩
 case round =>
  obtain⟨k,hkn,rfl,hE,kr⟩:=hrel
  by_cases hlt:k<n
  ·obtain⟨g,off,rfl,hc⟩:=HA.out (by omega)
   obtain⟨x,hx⟩:∃ x,l[k]?=some x:=⟨l[k]'(by have:=HN.out;omega),List.getElem?_eq_getElem _⟩
   have a0:=kr.cell (hc k x hx)
   have HC:=Lib.hid (HPP.out x (List.mem_of_getElem? hx))
   have HX:=Lib.hid (drop_step hx)
   have HP1:Hid (prvN l (k+1)=some x):=Lib.hid hx
   have hlt':(k:Int)<n:=by omega
   cases hok:f x
   ·rw [hok] at HC
    have HE2:Hid (R=false):=Lib.hid (by rw [← hE.out,HX.out];simp [incN,hok])
    clear hc hx hok
    go_wp2_with fail
    refine(HC.out _ (hk.trans kr)).mono ?_
    rintro e1 w1 ⟨rfl,k1⟩
    go_wp2_with fail
    go_ret
    exact⟨ret_bool HE2.out.symm,kr.trans k1⟩
   ·rw [hok] at HC
    by_cases h0:k=0
    ·subst h0
     have a1:wr.cell? ⟨g,off,none⟩=some (.int .i64 x):=a0
     have HE2:Hid (incN f (prvN l 1) (l.drop 1)=R):=Lib.hid (by
      rw [← hE.out,HX.out,HP1.out]
      simp [incN,hok,prvN])
     clear hc hx hok
     go_wp2_with fail
     refine(HC.out _ (hk.trans kr)).mono ?_
     rintro e1 w1 ⟨rfl,k1⟩
     go_wp2_with fail
     go_roundw
     case rel=>exact⟨1,by omega,by go_num,HE2,kr.trans k1⟩
     case measure=>simp [intOf];omega
    ·obtain⟨q,hq⟩:∃ q,l[k - 1]?=some q:=⟨l[k - 1]'(by have:=HN.out;omega),List.getElem?_eq_getElem _⟩
     have HQ:Hid (prvN l k=some q):=Lib.hid (by
      obtain⟨j,rfl⟩:∃ j,k=j+1:=⟨k - 1,by omega⟩
      exact hq)
     have et:((k:Int) - 1).toNat=k - 1:=by omega
     have p0:=kr.cell (hc (k - 1) q hq)
     have p1:wr.cell? ⟨g,off+((k:Int) - 1).toNat,none⟩=some (.int .i64 q):=by rw [et];exact p0
     have i0:0≤(k:Int) - 1:=by omega
     have i1:(k:Int) - 1<n:=by omega
     have hk0:0<k:=by omega
     by_cases hp:q<x
     ·have hp':¬ x≤q:=by omega
      have HE2:Hid (incN f (prvN l (k+1)) (l.drop (k+1))=R):=Lib.hid (by
       rw [← hE.out,HX.out,HP1.out,HQ.out]
       simp [incN,hok,hp])
      clear hc hx hok hq et
      go_wp2_with fail
      refine(HC.out _ (hk.trans kr)).mono ?_
      rintro e1 w1 ⟨rfl,k1⟩
      have p2:=k1.cell p1
      have p3:=k1.cell p0
      go_wp2_with fail
      go_roundw
      case rel=>exact⟨k+1,by omega,by go_num,HE2,kr.trans k1⟩
      case measure=>simp [intOf];omega
     ·have hp':x≤q:=by omega
      have HE2:Hid (R=false):=Lib.hid (by rw [← hE.out,HX.out,HQ.out];simp [incN,hp])
      clear hc hx hok hq et
      go_wp2_with fail
      refine(HC.out _ (hk.trans kr)).mono ?_
      rintro e1 w1 ⟨rfl,k1⟩
      have p2:=k1.cell p1
      have p3:=k1.cell p0
      go_wp2_with fail
      go_ret
      exact⟨ret_bool HE2.out.symm,kr.trans k1⟩
  ·obtain rfl:k=n:=by omega
   go_wp2_with fail
   go_ret
   refine⟨ret_bool ?_,kr⟩
   rw [← hE.out,List.drop_of_length_le (by rw [HN.out];omega)]
   rfl
/-- The test of an edge, over a map that lies in a box. -/
theorem edgeClo_any (B1:Nat) (W H:Int) (t r d:Value) (x:Int) (w:World) (a:1≤W) (b:W≤10) (c:1≤H) (e:H≤10) (ht:Tab w) (hx:isI64 x)
  (hb:ce5 w B1 (.int .i64 W) (.int .i64 H) t r d) :
  Calls Tryz.prog 271 #[.int .i64 x,.pointer (some ⟨B1,0,none⟩)] w fun e w'=>e=.returned (.bool (edgeB W H x))∧Kp w w':=by
 have HC:=Lib.hid (edgeEnds_any W H t r d x w a b c e ht hx)
 clear a b c e ht hx
 obtain⟨c0,c1,c2,c3,c4⟩:=hb
 go_enter Tryz.func271,Tryz.ntmps271
 go_wp2_with fail
 refine HC.out.mono ?_
 rintro e1 w1 ⟨rfl,k1⟩
 go_wp2_with fail
 go_ret
 exact⟨rfl,k1⟩
theorem areEdges_any (W H:Int) (t r d v:Value) (l:List Int) (w:World) (a:1≤W) (b:W≤10) (c:1≤H) (e:H≤10) (ht:Tab w) (h:RdI w v l) (hB:∀ x ∈ l,isI64 x) (hl:l.length≤1048576) :
  Calls Tryz.prog 248 #[mp W H t r d,v] w fun e w'=>e=.returned (.bool (edgesOk W H l))∧Kp w w':=by
 have s0:=new5 w (.int .i64 W) (.int .i64 H) t r d 45
 have KA:Kp w (w.alloc (.cells #[.int .i64 W,.int .i64 H,t,r,d] 45)):=s0.2.2.2.2.2
 have C1:=Lib.hid (isIncreasing_E #[.pointer (some ⟨w.heap.size,0,none⟩)] (edgeB W H) l v _ _ (fun x hx w' k'=>edgeClo_any w.heap.size W H t r d x w' a b c e (ht.keep (KA.trans k')) (hB x hx) ⟨k'.cell s0.1,k'.cell s0.2.1,k'.cell s0.2.2.1,k'.cell s0.2.2.2.1,k'.cell s0.2.2.2.2.1⟩) (Kp.refl _) (h.keep KA) hl)
 rw [incN_edges] at C1
 clear s0 ht h hB hl a b c e
 obtain⟨R,hR⟩:∃ R,R=edgesOk W H l:=⟨_,rfl⟩
 rw [← hR] at C1 ⊢
 clear hR
 go_enter Tryz.func248,Tryz.ntmps248
 go_wp2_with fail
 refine C1.out.mono ?_
 rintro e1 w1 ⟨rfl,k1⟩
 go_wp2_with fail
 go_ret
 exact⟨rfl,KA.trans k1⟩
theorem edgeListsOf_any (W H:Int) (t:Value) (Ar Ad:Option Addr) (nr cr nd cd:Nat) (w:World) :
  Calls Tryz.prog 247 #[mp W H t (.slice Ar nr cr) (.slice Ad nd cd)] w fun e w'=>e=.returned (.agg #[.slice Ar nr cr,.slice Ad nd cd])∧Kp w w':=by
 go_enter Tryz.func247,Tryz.ntmps247
 go_wp2
 exact bodyPost_ret (v:=.agg #[.slice Ar nr cr,.slice Ad nd cd]) (by simp [results,Tryz.results247,go_sem]) rfl ⟨rfl,((Kp.refl _).alloc _).alloc _⟩
/-- What a map's three lists are: slices that read as lists of numbers of 64 bits. -/
structure Lists (w:World) (t r d:Value) (lt lr ld:List Int):Prop where
 rt:RdI w t lt
 rr:RdI w r lr
 rd:RdI w d ld
 bt:lt.length≤1048576
 br:lr.length≤1048576
 bd:ld.length≤1048576
 it:∀ x ∈ lt,isI64 x
 ir:∀ x ∈ lr,isI64 x
 id:∀ x ∈ ld,isI64 x
theorem Lists.keep {w w':World} {t r d:Value} {lt lr ld:List Int} (h:Lists w t r d lt lr ld) (k:Kp w w'):Lists w' t r d lt lr ld :=
 ⟨h.rt.keep k,h.rr.keep k,h.rd.keep k,h.bt,h.br,h.bd,h.it,h.ir,h.id⟩
theorem index0 (r d:Value) (w:World):(Instr.index 293 (.agg #[r,d]) (.int .i64 0)).run Tryz.prog w=.ok r w:=by kernel_rfl
theorem index1 (r d:Value) (w:World):(Instr.index 293 (.agg #[r,d]) (.int .i64 1)).run Tryz.prog w=.ok d w:=by kernel_rfl
end Go.Proofs.YtacgknllagdkoaaGreatDoor
/-
 The reference's step in three directions returns what is said, and changes nothing that was there.
-/
namespace Go.Proofs.YtacgknllagdkoaaGreatDoor
open Go.RowKit
set_option maxHeartbeats 4000000 in
theorem hStep_0 (q r:Int) (w:World) (h1:-1000≤q) (h2:q≤1000) (h3:-1000≤r) (h4:r≤1000) :
  Calls Tryz.prog 173 #[hx q r,.int .i64 0] w fun e w'=>e=.returned (hx (q+1) (r+0))∧Kp w w':=by
 go_enter Tryz.func173,Tryz.ntmps173
 go_wp2
 go_region
 all_goals
  go_wp2
  exact bodyPost_ret (v:=hx (q+1) (r+0)) (by simp [results,Tryz.results173,go_sem]) rfl ⟨rfl,(((((Kp.refl _).alloc _).alloc _).alloc _).alloc _).drew⟩
set_option maxHeartbeats 4000000 in
theorem hStep_1 (q r:Int) (w:World) (h1:-1000≤q) (h2:q≤1000) (h3:-1000≤r) (h4:r≤1000) :
  Calls Tryz.prog 173 #[hx q r,.int .i64 1] w fun e w'=>e=.returned (hx (q+1) (r+-1))∧Kp w w':=by
 go_enter Tryz.func173,Tryz.ntmps173
 go_wp2
 go_region
 all_goals
  go_wp2
  exact bodyPost_ret (v:=hx (q+1) (r+-1)) (by simp [results,Tryz.results173,go_sem]) rfl ⟨rfl,(((((Kp.refl _).alloc _).alloc _).alloc _).alloc _).drew⟩
set_option maxHeartbeats 4000000 in
theorem hStep_2 (q r:Int) (w:World) (h1:-1000≤q) (h2:q≤1000) (h3:-1000≤r) (h4:r≤1000) :
  Calls Tryz.prog 173 #[hx q r,.int .i64 2] w fun e w'=>e=.returned (hx (q+0) (r+-1))∧Kp w w':=by
 go_enter Tryz.func173,Tryz.ntmps173
 go_wp2
 go_region
 all_goals
  go_wp2
  exact bodyPost_ret (v:=hx (q+0) (r+-1)) (by simp [results,Tryz.results173,go_sem]) rfl ⟨rfl,(((((Kp.refl _).alloc _).alloc _).alloc _).alloc _).drew⟩
end Go.Proofs.YtacgknllagdkoaaGreatDoor
/-
 The reference's step in the other three directions returns what is said, and changes nothing that was there.
-/
namespace Go.Proofs.YtacgknllagdkoaaGreatDoor
open Go.RowKit
set_option maxHeartbeats 4000000 in
theorem hStep_3 (q r:Int) (w:World) (h1:-1000≤q) (h2:q≤1000) (h3:-1000≤r) (h4:r≤1000) :
  Calls Tryz.prog 173 #[hx q r,.int .i64 3] w fun e w'=>e=.returned (hx (q+-1) (r+0))∧Kp w w':=by
 go_enter Tryz.func173,Tryz.ntmps173
 go_wp2
 go_region
 all_goals
  go_wp2
  exact bodyPost_ret (v:=hx (q+-1) (r+0)) (by simp [results,Tryz.results173,go_sem]) rfl ⟨rfl,(((((Kp.refl _).alloc _).alloc _).alloc _).alloc _).drew⟩
set_option maxHeartbeats 4000000 in
theorem hStep_4 (q r:Int) (w:World) (h1:-1000≤q) (h2:q≤1000) (h3:-1000≤r) (h4:r≤1000) :
  Calls Tryz.prog 173 #[hx q r,.int .i64 4] w fun e w'=>e=.returned (hx (q+-1) (r+1))∧Kp w w':=by
 go_enter Tryz.func173,Tryz.ntmps173
 go_wp2
 go_region
 all_goals
  go_wp2
  exact bodyPost_ret (v:=hx (q+-1) (r+1)) (by simp [results,Tryz.results173,go_sem]) rfl ⟨rfl,(((((Kp.refl _).alloc _).alloc _).alloc _).alloc _).drew⟩
set_option maxHeartbeats 4000000 in
theorem hStep_5 (q r:Int) (w:World) (h1:-1000≤q) (h2:q≤1000) (h3:-1000≤r) (h4:r≤1000) :
  Calls Tryz.prog 173 #[hx q r,.int .i64 5] w fun e w'=>e=.returned (hx (q+0) (r+1))∧Kp w w':=by
 go_enter Tryz.func173,Tryz.ntmps173
 go_wp2
 go_region
 all_goals
  go_wp2
  exact bodyPost_ret (v:=hx (q+0) (r+1)) (by simp [results,Tryz.results173,go_sem]) rfl ⟨rfl,(((((Kp.refl _).alloc _).alloc _).alloc _).alloc _).drew⟩
end Go.Proofs.YtacgknllagdkoaaGreatDoor
/-
 The reference's step in a direction returns what a plain function on integers says, and changes nothing that was there.
-/
namespace Go.Proofs.YtacgknllagdkoaaGreatDoor
open Go.RowKit
theorem hStep_any (q r d:Int) (w:World) (hd0:0≤d) (hd5:d≤5) (h1:-1000≤q) (h2:q≤1000) (h3:-1000≤r) (h4:r≤1000) :
  Calls Tryz.prog 173 #[hx q r,.int .i64 d] w fun e w'=>e=.returned (hx (q+dirQ d) (r+dirR d))∧Kp w w':=by
 rcases six hd0 hd5 with rfl | rfl | rfl | rfl | rfl | rfl
 ·exact hStep_0 q r w h1 h2 h3 h4
 ·exact hStep_1 q r w h1 h2 h3 h4
 ·exact hStep_2 q r w h1 h2 h3 h4
 ·exact hStep_3 q r w h1 h2 h3 h4
 ·exact hStep_4 q r w h1 h2 h3 h4
 ·exact hStep_5 q r w h1 h2 h3 h4
end Go.Proofs.YtacgknllagdkoaaGreatDoor
/-
 The reference's functions on maps return what plain functions on integers and lists say, and change nothing that was there.
-/
namespace Go.Proofs.YtacgknllagdkoaaGreatDoor
open Go.RowKit
theorem mSize_any (W H:Int) (t r d:Value) (w:World) (a:1≤W) (b:W≤10) (c:1≤H) (e:H≤10) :
  Calls Tryz.prog 102 #[mp W H t r d] w fun e w'=>e=.returned (.int .i64 (W*H))∧Kp w w':=by
 have hb:=area_bd a b c e
 go_enter Tryz.func102,Tryz.ntmps102
 go_wp2
 go_ret
 exact⟨rfl,(Kp.refl _).alloc _⟩
theorem mHex_any (W H:Int) (t r d:Value) (i:Int) (w:World) (a:1≤W) (b:W≤10) (h0:0≤i) (h1:i≤100000) :
  Calls Tryz.prog 174 #[mp W H t r d,.int .i64 i] w fun e w'=>e=.returned (hx (i % W) (i / W))∧Kp w w':=by
 have hW0:W ≠ 0:=by omega
 go_enter Tryz.func174,Tryz.ntmps174
 go_wp2
 go_region
 all_goals
  go_wp2
  exact bodyPost_ret (v:=hx (i % W) (i / W)) (by simp [results,Tryz.results174,go_sem]) rfl ⟨rfl,(((Kp.refl _).alloc _).alloc _).drew⟩
def orNo (b:Bool) (x:Int):Int:=if b=true then x else -1
theorem orNo_true (x:Int):orNo true x=x:=rfl
theorem orNo_false (x:Int):orNo false x=-1:=rfl
def inB (n h:Int):Bool:=decide (0≤n) && decide (n<h)
theorem l1In_lt (n h m:Int) (w:World) (hm:m=h - 1) :
  Calls Tryz.prog 63 #[.int .i64 n,.int .i64 0,.int .i64 m] w fun e w'=>e=.returned (.bool (inB n h))∧w=w':=by
 have e:inB n h=(decide (0≤n) && decide (n≤m)):=by
  unfold inB
  congr 1
  rw [decide_eq_decide]
  omega
 rw [e]
 exact l1In_gen n 0 m w
theorem mIndex_any (W H:Int) (t r d:Value) (hq hr:Int) (w:World) (a:1≤W) (b:W≤10) (c:1≤H) (e:H≤10) :
  Calls Tryz.prog 172 #[mp W H t r d,hx hq hr] w fun e w'=>e=.returned (.int .i64 (orNo (inM W H hq hr) (idxM W hq hr)))∧Kp w w':=by
 cases h1:inB hq W
 ·have hf:inM W H hq hr=false:=by unfold inB at h1;simp only [inM,h1,Bool.false_and]
  rw [hf,orNo_false]
  go_enter Tryz.func172,Tryz.ntmps172
  go_wp2_with fail
  refine(l1In_lt _ W _ _ rfl).mono ?_
  rintro e1 w1 ⟨rfl,rfl⟩
  go_wp2_with fail
  go_ret
  exact⟨rfl,((Kp.refl _).alloc _).alloc _⟩
 ·cases h2:inB hr H
  ·have hf:inM W H hq hr=false:=by unfold inB at h2;simp only [inM,h2,Bool.and_false]
   rw [hf,orNo_false]
   go_enter Tryz.func172,Tryz.ntmps172
   go_wp2_with fail
   refine(l1In_lt _ W _ _ rfl).mono ?_
   rintro e1 w1 ⟨rfl,rfl⟩
   go_wp2_with fail
   refine(l1In_lt _ H _ _ rfl).mono ?_
   rintro e1 w1 ⟨rfl,rfl⟩
   go_wp2_with fail
   go_ret
   exact⟨rfl,((Kp.refl _).alloc _).alloc _⟩
  ·have hf:inM W H hq hr=true:=by unfold inB at h1 h2;simp only [inM,h1,h2,Bool.and_self]
   obtain⟨b1,b2,b3,b4⟩:=inM_true hf
   have hm:=mul_bd a b (r:=hr) (by omega) (by omega)
   rw [hf,orNo_true]
   unfold idxM
   clear hf
   go_enter Tryz.func172,Tryz.ntmps172
   go_wp2_with fail
   refine(l1In_lt _ W _ _ rfl).mono ?_
   rintro e1 w1 ⟨rfl,rfl⟩
   go_wp2_with fail
   refine(l1In_lt _ H _ _ rfl).mono ?_
   rintro e1 w1 ⟨rfl,rfl⟩
   go_wp2_with fail
   go_ret
   exact⟨rfl,((Kp.refl _).alloc _).alloc _⟩
set_option maxHeartbeats 1000000 in
theorem mNext_any (W H:Int) (t r d:Value) (i x:Int) (w:World) (a:1≤W) (b:W≤10) (c:1≤H) (e:H≤10) (h0:0≤i) (h1:i<W*H) (d0:0≤x) (d5:x≤5) :
  Calls Tryz.prog 123 #[mp W H t r d,.int .i64 i,.int .i64 x] w fun e w'=>e=.returned (.int .i64 (orNo (nbM W H i x) (nbI W i x)))∧Kp w w':=by
 have hA:=area_bd a b c e
 have bd:=dir_bd x
 have hh:=hex_bd a b h0 h1
 unfold nbM nbI nbQ nbR
 have s0:=new5 w (.int .i64 W) (.int .i64 H) t r d 45
 have s1:cb5 ((w.alloc (.cells #[.int .i64 W,.int .i64 H,t,r,d] 45)).drew) (w.heap.size) (.int .i64 W) (.int .i64 H) t r d (Kp w (w.alloc (.cells #[.int .i64 W,.int .i64 H,t,r,d] 45)).drew) :=
  ⟨s0.1,s0.2.1,s0.2.2.1,s0.2.2.2.1,s0.2.2.2.2.1,s0.2.2.2.2.2.drew⟩
 go_enter Tryz.func123,Tryz.ntmps123
 go_wp2_with fail
 generalize w.alloc (.cells #[.int .i64 W,.int .i64 H,t,r,d] 45)=W0 at *
 go_region_held3 (fun w'=>cb5 w' (w.heap.size) (.int .i64 W) (.int .i64 H) t r d (Kp w w')) (first | assumption | exact s1)
  (first
   | (go_at_call 174;refine(mHex_any _ _ _ _ _ _ _ a b h0 (by omega)).mono ?_;rintro e wc ⟨rfl,kc⟩;have sc:=keep5 kc (by assumption))
   | (go_at_call 173;refine(hStep_any _ _ _ _ d0 d5 (by omega) (by omega) (by omega) (by omega)).mono ?_;rintro e wd ⟨rfl,kd⟩;have sd:=keep5 kd (by assumption))
   | (go_at_call 172;refine(mIndex_any _ _ _ _ _ _ _ _ a b c e).mono ?_;rintro e3 we ⟨rfl,ke⟩;have se:=keep5 ke (by assumption)))
 all_goals
  go_wp2_with fail
  go_ret
  exact⟨rfl,se.2.2.2.2.2⟩
theorem mEdge_any (W H:Int) (t r d:Value) (i x:Int) (w:World) (a:1≤W) (b:W≤10) (c:1≤H) (e:H≤10) (hn:nbB W H i x=true) :
  Calls Tryz.prog 263 #[mp W H t r d,.int .i64 i,.int .i64 x] w fun e w'=>e=.returned (.int .i64 (edgI W i x))∧Kp w w':=by
 have hA:=area_bd a b c e
 obtain⟨⟨i0,i1⟩,⟨x0,x5⟩,n0,n1⟩:=nbB_true hn
 have hm:nbM W H i x=true:=by simp only [nbB,Bool.and_eq_true] at hn;exact hn.2.2
 unfold edgI
 by_cases hx:x<3
 ·rw [if_pos hx]
  clear hn
  go_enter Tryz.func263,Tryz.ntmps263
  go_wp2_with fail
  go_ret
  exact⟨rfl,(Kp.refl _).alloc _⟩
 ·rw [if_neg hx]
  clear hn
  go_enter Tryz.func263,Tryz.ntmps263
  go_wp2_with fail
  refine(mNext_any _ _ _ _ _ _ _ _ a b c e i0 i1 x0 x5).mono ?_
  rintro e1 wa ⟨rfl,ka⟩
  rw [hm,orNo_true]
  go_wp2_with fail
  go_ret
  exact⟨rfl,((Kp.refl _).alloc _).trans ka⟩
end Go.Proofs.YtacgknllagdkoaaGreatDoor
