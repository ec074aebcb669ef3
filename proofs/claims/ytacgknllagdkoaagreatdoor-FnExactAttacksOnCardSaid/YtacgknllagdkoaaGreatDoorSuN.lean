/-
 The neighbours of a hex on the map, strictly rising, as the program lists them. In memory of its own; nothing that was there is changed. The table of directions holds what the program's text lays.
-/
import Derived.Maps.AppendAt
import Derived.Deep.Cut
import Derived.Test.YtacgknllagdkoaaGreatDoorSuM
import Derived.Test.YtacgknllagdkoaaGreatDoorSuJ
import Derived.Test.YtacgknllagdkoaaGreatDoorSortI
import Derived.Test.YtacgknllagdkoaaGreatDoorQa
import Derived.Test.YtacgknllagdkoaaGreatDoorQe
import Derived.Test.YtacgknllagdkoaaGreatDoorQa
namespace Go.Proofs.YtacgknllagdkoaaGreatDoor
open Go.RowKit
set_option maxRecDepth 100000 in
set_option maxHeartbeats 4000000 in
theorem neighboursOn_any (W H:Int) (x r y:Value) (n:Nat) (w:World) (a:1≤W) (b:W≤10) (c:1≤H) (e:H≤10) (ht:Tab w) (hn:(n:Int)<W*H) :
  Calls Tryz.prog 139 #[mp W H x r y,.int .i64 (n:Int)] w fun e' w'=>∃ v,e'=.returned v∧OwnI w' w.heap.size v (ints (nbS W H n))∧Kp w w':=by
 have HT:=Lib.hid ht
 have CN:Hid (∀ (q:Nat) w,q<6→Tab w→Calls Tryz.prog 191 #[mp W H x r y,.int .i64 (n:Int),.int .i64 (q:Int)] w fun e w'=>e=.returned (ib (nbM W H n q) (nbI W n q))∧Kp w w'):=Lib.hid fun q w hq ht=>by
  have h:=neighbourIndex_any W H x r y n q w a b c e ht
  have e1:nbB W H (n:Int) (q:Int)=nbM W H n q:=by
   unfold nbB
   rw [onI_mk (by omega) hn,dirB_mk (by omega) (by omega)]
   rfl
  rw [e1] at h
  exact h
 have s0:=new5 w (.int .i64 W) (.int .i64 H) x r y 45
 obtain⟨j0,hj0,hz0,hs0,hb0⟩:=info_parts infoInt
 clear ht hn
 go_enter Tryz.func139,Tryz.ntmps139
 go_wp2_with fail
 go_loopw [5,6,7,8,9,12] (fun v _ _ _ sq _ wx=>∃ (V:Value) (q:Nat),V=v∧q≤6∧sq=.int .i64 q∧OwnI wx (w.heap.size+1) v (ints (nbT W H n q))∧cb5 wx (w.heap.size) (.int .i64 W) (.int .i64 H) (x) (r) (y) (Kp w wx)) (fun _ _ _ _ sq _ _=>6 - (intOf sq).toNat)
 case atStart=>exact⟨_,0,rfl,by omega,rfl,OwnI.nil _ _,s0⟩
 case round =>
  clear s0
  obtain⟨V,q,hV,hqn,rfl,hoR,sr⟩:=hrel
  subst hV
  have HO:=Lib.hid hoR
  have kr:Kp w wr:=sr.2.2.2.2.2
  by_cases hlt:q<6
  ·have hlt':(q:Int)<6:=by omega
   clear hoR
   have CQ:=Lib.hid (fun w ht=>CN.out q w hlt ht)
   cases hnb:nbM W H n q
   ·rw [hnb,ib_false] at CQ
    have HS:Hid (nbT W H n (q+1)=nbT W H n q):=Lib.hid (nbT_no hnb)
    clear hnb
    go_wp2_with fail
    refine(CQ.out _ (HT.out.keep kr)).mono ?_
    rintro e1 w1 ⟨rfl,k1⟩
    have HO1:=Lib.hid (HO.out.keep k1)
    have s1:=keep5 k1 sr
    clear sr k1 HO kr
    go_wp2_with fail
    go_roundw
    case rel=>exact⟨_,q+1,rfl,by omega,by go_num,by rw [HS.out];exact HO1.out,s1⟩
    case measure=>simp [intOf];omega
   ·rw [hnb,ib_true] at CQ
    have HS:Hid (ints (nbT W H n (q+1))=ints (nbT W H n q)++[nbI W n q]):=Lib.hid (nbTI_yes hnb)
    have hln:Hid ((ints (nbT W H n q)).length≤6):=Lib.hid (by rw [ints_len];have:=nbT_len (W:=W) (H:=H) (x:=n) q;omega)
    generalize nbI W (n:Int) (q:Int)=X at CQ HS
    clear hnb
    go_wp2_with fail
    refine(CQ.out _ (HT.out.keep kr)).mono ?_
    rintro e1 w1 ⟨rfl,k1⟩
    have HO1:=Lib.hid (HO.out.keep k1)
    have s1:=keep5 k1 sr
    have hbw:w.heap.size≤w1.heap.size:=s1.2.2.2.2.2.size
    have hbz:=cell_lt s1.1
    clear sr k1 HO kr
    go_wp2_with (at_builtin;refine wpList_append_own_at _ rfl (.tmp 20) (.tmp 22) 26 rfl (w.heap.size+1) 3 j0 (.int .i64 0) 1 8 Tryz.underlying26 hj0 hz0 hs0 hb0 rfl (by decide) _ (ints (nbT W H n q)).length (cellsI (ints (nbT W H n q))) rfl (World.ownsRow.alloc HO1.out _) ⟨w1.heap.size,0,none⟩ 1 1 [.int .i64 X] rfl rfl (one_cell _ _ _) (by simp [Value.oneCell']) (by have:=hln.out;simp only [maxLen];omega) (by have:=hln.out;omega) (by simp;omega) ?_;intro v' w3 hown2 hgrow2 hnil2 hat2;clear hnil2 hat2;have hrow:∀ k,V.ownBlock=some k→w.heap.size+1≤k:=fun k e=>(World.ownsRow.lt HO1.out k e).1;have s5:=grow5 (keep5 ((Kp.refl _).alloc _) s1) hgrow2 hrow;have O3:=Lib.hid (OwnI.snoc (x:=X) hown2);clear hown2 hgrow2 hrow)
    go_roundw
    case rel=>exact⟨_,q+1,rfl,by omega,by go_num,by rw [HS.out];exact O3.out,s5⟩
    case measure=>simp [intOf];omega
  ·obtain rfl:q=6:=by omega
   have h6:Hid ((ints (nbT W H n 6)).length≤1048576):=Lib.hid (by rw [ints_len];have:=nbT_len (W:=W) (H:=H) (x:=n) 6;omega)
   have HS:Hid (ints (nbS W H n)=(ints (nbT W H n 6)).mergeSort fun x y=>decide (x≤y)):=Lib.hid (nbS_ints W H n)
   clear hoR
   go_wp2_with fail
   refine(sort_own _ _ _ _ HO.out h6.out).mono ?_
   rintro e2 w2 ⟨rfl,o2,g2⟩
   have k2:Kp w w2:=kr.grown g2 (fun k e=>by have:=(World.ownsRow.lt HO.out k e).1;omega)
   have O2:Hid (OwnI w2 (w.heap.size+1) V (ints (nbS W H n))):=Lib.hid (by rw [HS.out];exact o2)
   clear o2 g2 HO HS h6
   go_wp2_with fail
   go_ret
   exact⟨_,rfl,O2.out.base (by omega),k2⟩
end Go.Proofs.YtacgknllagdkoaaGreatDoor
