/-
 Paths: lists of at most nine directions, as the program and the reference ask. Nothing that was there is changed.
-/
import Derived.Test.YtacgknllagdkoaaGreatDoorCsM
import Derived.StillTailTactics
import Derived.Deep.Cut
import Derived.Maps.AppendAt
import Derived.Test.YtacgknllagdkoaaGreatDoorQa
import Derived.Test.YtacgknllagdkoaaGreatDoorQb
import Derived.Test.YtacgknllagdkoaaGreatDoorQa
namespace Go.Proofs.YtacgknllagdkoaaGreatDoor
open Go.RowKit
/-- The place of the first element that p holds of, counted from n; -1 if there is none. -/
def fstQ {α:Type} (p:α→Bool):List α→Int→Int
 | [],_=>-1
 | x :: l,n=>if p x=true then n else fstQ p l (n+1)
theorem fstQ_neg {α:Type} (p:α→Bool):∀ (l:List α) (n:Int),0≤n→(fstQ p l n<0 ↔ l.any p=false)∧-1≤fstQ p l n∧fstQ p l n≤n+l.length
 | [],n,h=>by simp [fstQ];omega
 | x :: l,n,h=>by
  have ih:=fstQ_neg p l (n+1) (by omega)
  unfold fstQ
  cases hx:p x
  ·simp only [Bool.false_eq_true,if_false,List.any_cons,hx,Bool.false_or,List.length_cons]
   refine⟨ih.1,ih.2.1,?_⟩
   have:=ih.2.2
   omega
  ·simp only [if_true,List.any_cons,hx,Bool.true_or,List.length_cons]
   refine⟨⟨fun h2=>by omega,fun h2=>by cases h2⟩,by omega,by omega⟩
theorem fstQ_bd {α:Type} (p:α→Bool) (l:List α) (n:Int) (hn:0≤n):-1≤fstQ p l n∧fstQ p l n≤n+l.length:=(fstQ_neg p l n hn).2
theorem dropQ {α:Type} {l:List α} {k:Nat} {x:α} (h:l[k]?=some x):l.drop k=x :: l.drop (k+1):=by
 obtain⟨hk,rfl⟩:=List.getElem?_eq_some_iff.1 h
 exact List.drop_eq_getElem_cons hk
def pthB (p:List Int):Bool:=decide (p.length≤9) && p.all (spB 0 5)
theorem pth_dir {p:List Int} (h:pthB p=true):p.length≤9∧∀ x ∈ p,0≤x∧x≤5:=by
 simp only [pthB,Bool.and_eq_true,decide_eq_true_iff,List.all_eq_true,spB] at h
 exact h
set_option maxRecDepth 100000 in
set_option maxHeartbeats 4000000 in
theorem indexFunc_P (lb:Array Value) (p:Int→Bool) (l:List Int) (v:Value) (W1 w:World) (HP:∀ x ∈ l,∀ w,Kp W1 w→Calls Tryz.prog 217 (#[.int .i64 x]++lb) w fun e w'=>e=.returned (.bool (p x))∧Kp w w')
  (hk:Kp W1 w) (hr:RdI w v l) (hl:l.length≤1048576) :
  Calls Tryz.prog 249 #[v,.func (.func 217) #[] lb] w fun e w'=>e=.returned (.int .i64 (fstQ p l 0))∧Kp w w':=by
 obtain⟨A,cp,rfl,h⟩:=hr
 have HA:=Lib.hid h
 have HPP:=Lib.hid HP
 obtain⟨R,hR⟩:∃ R,R=fstQ p l 0:=⟨_,rfl⟩
 rw [← hR]
 have HR:=Lib.hid hR
 clear h hR HP
 generalize hn:l.length=n at *
 have HN:=Lib.hid hn
 clear hn
 go_enter Tryz.func249,Tryz.ntmps249
 go_wp2_with fail
 go_loopw [5,8] (fun _ i wr=>∃ k:Nat,k≤n∧i=.int .i64 k∧Hid (fstQ p (l.drop k) (k:Int)=R)∧Kp w wr) (fun _ i _=>n - (intOf i).toNat)
 case atStart=>exact⟨0,by omega,rfl,Lib.hid (by rw [List.drop_zero];exact HR.out.symm),Kp.refl w⟩
 case round =>
  obtain⟨k,hkn,rfl,hE,kr⟩:=hrel
  by_cases hlt:k<n
  ·obtain⟨g',off,rfl,hc⟩:=HA.out (by omega)
   obtain⟨x,hx⟩:∃ x,l[k]?=some x:=⟨l[k]'(by have:=HN.out;omega),List.getElem?_eq_getElem _⟩
   have a0:=kr.cell (hc k x hx)
   have HX:=Lib.hid (dropQ hx)
   have HC:=Lib.hid (HPP.out x (List.mem_of_getElem? hx))
   clear hc hx
   have hlt':(k:Int)<n:=by omega
   cases hok:p x
   ·have HE2:Hid (fstQ p (l.drop (k+1)) ((k+1:Nat):Int)=R):=Lib.hid (by
     rw [← hE.out,HX.out,fstQ,hok]
     simp only [Bool.false_eq_true,if_false]
     congr 1)
    rw [hok] at HC
    clear hok
    go_wp2_with (go_at_call 217;refine(HC.out _ (hk.trans kr)).mono ?_;rintro e2 w2 ⟨rfl,k2⟩)
    go_roundw
    case rel=>exact⟨k+1,by omega,by go_num,HE2,kr.trans k2⟩
    case measure=>simp [intOf];omega
   ·have HE2:Hid ((k:Int)=R):=Lib.hid (by
     rw [← hE.out,HX.out,fstQ,hok]
     simp)
    rw [hok] at HC
    clear hok
    go_wp2_with (go_at_call 217;refine(HC.out _ (hk.trans kr)).mono ?_;rintro e2 w2 ⟨rfl,k2⟩)
    go_ret
    exact⟨ret_int HE2.out,kr.trans k2⟩
  ·obtain rfl:k=n:=by omega
   have HE2:Hid ((-1:Int)=R):=Lib.hid (by
    rw [← hE.out,List.drop_eq_nil_of_le (by have:=HN.out;omega)]
    rfl)
   go_wp2_with fail
   go_ret
   exact⟨ret_int HE2.out,kr⟩
set_option maxRecDepth 100000 in
set_option maxHeartbeats 4000000 in
theorem containsFunc_P (lb:Array Value) (p:Int→Bool) (l:List Int) (v:Value) (W1 w:World) (HP:∀ x ∈ l,∀ w,Kp W1 w→Calls Tryz.prog 217 (#[.int .i64 x]++lb) w fun e w'=>e=.returned (.bool (p x))∧Kp w w')
  (hk:Kp W1 w) (hr:RdI w v l) (hl:l.length≤1048576) :
  Calls Tryz.prog 216 #[v,.func (.func 217) #[] lb] w fun e w'=>e=.returned (.bool (l.any p))∧Kp w w':=by
 have C1:=Lib.hid (indexFunc_P lb p l v W1 w HP hk hr hl)
 have h1:=(fstQ_neg p l 0 (by omega)).1
 have h2:=fstQ_bd p l 0 (by omega)
 have HE:Hid (decide (0≤fstQ p l 0)=l.any p):=Lib.hid (by
  cases ha:l.any p
  ·rw [ha] at h1
   simpa using h1
  ·rw [ha] at h1
   simpa using h1)
 generalize fstQ p l 0=R at C1 HE h2
 generalize l.any p=B at HE ⊢
 clear h1 HP hk hr
 go_enter Tryz.func216,Tryz.ntmps216
 go_wp2_with fail
 refine C1.out.mono ?_
 rintro e1 w1 ⟨rfl,k1⟩
 go_wp2_with fail
 go_ret
 exact⟨ret_bool HE.out,k1⟩
theorem pathClo (x:Int) (w:World):Calls Tryz.prog 217 (#[.int .i64 x]++#[]) w fun e w'=>e=.returned (.bool (!spB 0 5 x))∧Kp w w':=by
 have HC:=Lib.hid (isDirection_any x w)
 obtain⟨B,hB⟩:∃ B,B=spB 0 5 x:=⟨_,rfl⟩
 rw [show (decide (0≤x) && decide (x≤5))=B from hB.symm] at HC
 rw [← hB]
 clear hB
 show Calls Tryz.prog 217 #[.int .i64 x] w _
 go_enter Tryz.func217,Tryz.ntmps217
 go_wp2_with fail
 refine HC.out.mono ?_
 rintro e1 w1 ⟨rfl,rfl⟩
 go_wp2_with fail
 go_ret
 exact⟨rfl,Kp.refl _⟩
set_option maxRecDepth 100000 in
set_option maxHeartbeats 4000000 in
theorem isPath_any (v:Value) (p:List Int) (w:World) (h:RdI w v p) (hl:p.length≤1048576) :
  Calls Tryz.prog 189 #[v] w fun e w'=>e=.returned (.bool (pthB p))∧Kp w w':=by
 obtain⟨B,hB⟩:∃ B,B=p.all (spB 0 5):=⟨_,rfl⟩
 have hn:p.any (fun x=>!spB 0 5 x)=!B:=by rw [hB,List.not_all_eq_any_not]
 have HC:=Lib.hid (containsFunc_P #[] (fun x=>!spB 0 5 x) p v w w (fun x _ w _=>pathClo x w) (Kp.refl w) h hl)
 rw [hn] at HC
 have HE:Hid (pthB p=(decide (p.length≤9) && B)):=Lib.hid (by rw [hB];rfl)
 rw [HE.out]
 obtain⟨A,cp,rfl,_⟩:=h
 clear hB hn HE
 generalize p.length=n at hl HC ⊢
 by_cases h9:n≤9
 ·have h9':(n:Int)≤9:=by omega
  rw [decide_eq_true h9]
  go_enter Tryz.func189,Tryz.ntmps189
  go_wp2_with fail
  refine HC.out.mono ?_
  rintro e1 w1 ⟨rfl,k1⟩
  go_wp2_with fail
  go_ret
  exact⟨ret_bool (by simp),k1⟩
 ·have h9':decide ((n:Int)≤9)=false:=by simp;omega
  rw [decide_eq_false h9]
  clear HC
  go_enter Tryz.func189,Tryz.ntmps189
  go_wp2_with fail
  go_ret
  exact⟨ret_bool (by simp),Kp.refl w⟩
set_option maxRecDepth 100000 in
set_option maxHeartbeats 4000000 in
theorem csPath_any (v:Value) (p:List Int) (w:World) (h:RdI w v p) (hl:p.length≤1048576) :
  Calls Tryz.prog 149 #[v] w fun e w'=>e=.returned (.bool (pthB p))∧w=w':=by
 have HC:=Lib.hid (l1All_sp v p 0 5 w h hl)
 have HE:Hid (pthB p=(decide (p.length≤9) && p.all (spB 0 5))):=Lib.hid rfl
 rw [HE.out]
 generalize p.all (spB 0 5)=B at HC ⊢
 obtain⟨A,cp,rfl,_⟩:=h
 clear HE
 generalize p.length=n at hl HC ⊢
 by_cases h9:n≤9
 ·have h9':(n:Int)≤9:=by omega
  rw [decide_eq_true h9]
  go_enter Tryz.func149,Tryz.ntmps149
  go_wp2_with fail
  refine HC.out.mono ?_
  rintro e1 w1 ⟨rfl,rfl⟩
  go_wp2_with fail
  go_ret
  exact⟨ret_bool (by simp),rfl⟩
 ·have h9':decide ((n:Int)≤9)=false:=by simp;omega
  rw [decide_eq_false h9]
  clear HC
  go_enter Tryz.func149,Tryz.ntmps149
  go_wp2_with fail
  go_ret
  exact⟨ret_bool (by simp),rfl⟩
end Go.Proofs.YtacgknllagdkoaaGreatDoor
