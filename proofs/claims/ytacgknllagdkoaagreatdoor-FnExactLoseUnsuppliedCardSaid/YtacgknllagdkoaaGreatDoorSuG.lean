/-
 The program's search for supply, whole: the first ways to all hexes. In memory of its own; nothing that was there is changed. The table of directions holds what the program's text lays.
-/
import Derived.Deep.Cut
import Derived.Deep.RegionHeld3
import Derived.Test.YtacgknllagdkoaaGreatDoorSuF
import Derived.Test.YtacgknllagdkoaaGreatDoorQa
import Derived.Test.YtacgknllagdkoaaGreatDoorQb
import Derived.Test.YtacgknllagdkoaaGreatDoorQa
namespace Go.Proofs.YtacgknllagdkoaaGreatDoor
open Go.RowKit
theorem keepf9 {W0 w w1:World} {p0 p1 p2 p3 p4 p5 p6 p7 p8:Addr} {v0 v1 v2 v3 v4 v5 v6 v7 v8:Value} (k:Kp w w1) (h:w.cell? p0=some v0∧w.cell? p1=some v1∧w.cell? p2=some v2∧w.cell? p3=some v3∧w.cell? p4=some v4∧w.cell? p5=some v5∧w.cell? p6=some v6∧w.cell? p7=some v7∧w.cell? p8=some v8∧Kp W0 w):w1.cell? p0=some v0∧w1.cell? p1=some v1∧w1.cell? p2=some v2∧w1.cell? p3=some v3∧w1.cell? p4=some v4∧w1.cell? p5=some v5∧w1.cell? p6=some v6∧w1.cell? p7=some v7∧w1.cell? p8=some v8∧Kp W0 w1 :=
 ⟨k.cell h.1,k.cell h.2.1,k.cell h.2.2.1,k.cell h.2.2.2.1,k.cell h.2.2.2.2.1,k.cell h.2.2.2.2.2.1,k.cell h.2.2.2.2.2.2.1,k.cell h.2.2.2.2.2.2.2.1,k.cell h.2.2.2.2.2.2.2.2.1,h.2.2.2.2.2.2.2.2.2.trans k⟩
theorem fw_start (w1:World) (N:Nat) (hN:N≤100) (T1 T2:TypeId):FwAt (((w1.alloc (.cells (madeCells #[.slice none 0 0] N) 26)).alloc (.cells #[.slice (some ⟨w1.heap.size,0,none⟩) N N] T1)).alloc (.cells #[.slice none 0 0] T2)) w1.heap.size (w1.heap.size+1) (w1.heap.size+1+1) (w1.heap.size+1+1+1) N (lookN [] []) (keysQ ([]:List (Nat × List Nat))) (.slice none 0 0):=by
 have ho:(w1.alloc (.cells (madeCells #[.slice none 0 0] N) 26)).ownsRow w1.heap.size 26 1 (.slice (some ⟨w1.heap.size,0,none⟩) N N) N (madeCells #[.slice none 0 0] N).toList :=
  World.ownsRow_lit w1 _ N (Nat.le_refl _) (by simp only [maxLen];omega) (by rw [size_madeCells,Nat.mul_one])
 refine⟨by simp [go_sem],by simp [go_sem],by simp [go_sem],⟨_,(ho.alloc _).alloc _,fun k hk=>⟨.slice none 0 0,?_,OwnI.nil _ _,fun g e=>by cases e⟩⟩,OwnI.nil _ _,⟨by omega,by omega,by omega⟩,⟨by omega,by omega,by omega⟩,by simp⟩
 have:k % 1=0:=Nat.mod_one k
 simp [madeCells,hk,this]
theorem OwnI.cap {w:World} {base n c:Nat} {A:Option Addr} {l:List Int} (h:OwnI w base (.slice A n c) l):n=l.length∧n≤c:=by
 have h0:w.ownsRow base 3 1 (.slice A n c) l.length (cellsI l):=h
 rcases h0.2 with ⟨hv,hn⟩ | ⟨g,cap,cur,hv,_,_,hc,_⟩
 ·simp only [Value.slice.injEq] at hv
  omega
 ·simp only [Value.slice.injEq] at hv
  omega
set_option maxRecDepth 100000 in
set_option maxHeartbeats 4000000 in
theorem firstWays_any (lb:Array Value) (ok:Nat→Bool) (W H:Int) (x r y:Value) (N:Nat) (src:List Nat) (qv:Value) (W1 w:World) (a:1≤W) (b:W≤10) (c:1≤H) (e:H≤10) (hN:(N:Int)=W*H) (ht:Tab w)
  (HP:∀ j:Nat,j<N→∀ w,Kp W1 w→Calls Tryz.prog 205 (#[.int .i64 (j:Int)]++lb) w fun e' w'=>e'=.returned (.bool (ok j))∧Kp w w') (hk:Kp W1 w)
  (hq:RdI w qv (ints src)) (hs:∀ k ∈ src,k<N) (hsl:src.length≤100) :
  Calls Tryz.prog 204 #[mp W H x r y,qv,.func (.func 205) #[] lb] w fun e' w'=>∃ g,e'=.returned (.slice (some ⟨g,0,none⟩) N N)∧w.heap.size≤g∧(∀ k,k<N→∃ z,w'.cell? ⟨g,k,none⟩=some z∧OwnI w' w.heap.size z (ints (wayN ok W H src N k)))∧Kp w w':=by
 have hA:=area_bd a b c e
 have hN2:N≤100:=by omega
 have HT:=Lib.hid ht
 have HPP:=Lib.hid HP
 have HS:=Lib.hid hs
 have CC:Hid (∀ w,Calls Tryz.prog 160 #[mp W H x r y] w fun e w'=>e=.returned (.int .i64 (N:Int))∧Kp w w'):=Lib.hid fun w=>by
  have:=countHexes_any W H x r y w a b c e
  rw [← hN] at this
  exact this
 have CN:=Lib.hid (fun (n:Nat) (w:World) ht (hn:(n:Int)<W*H)=>neighboursOn_any W H x r y n w a b c e ht hn)
 have HLW:Hid (∀ n,(wayQ ok W H src n).length≤N):=Lib.hid fun n=>bfQ_len hs (fun _ _ _ h=>nbS_bd hN h) n
 have HPL:Hid (∀ (n j:Nat) (e:Nat × List Nat),(wayQ ok W H src n)[j]?=some e→e.2.length≤j+1):=Lib.hid fun n j e h=>bfQ_place List.length rfl (by simp) n j e h
 have HNB:Hid (∀ x k:Nat,k ∈ nbS W H x→k<N):=Lib.hid fun x k h=>nbS_bd hN h
 have HNN:=Lib.hid hN
 have s0:ce5 ((w.alloc (.cells #[.int .i64 W,.int .i64 H,x,r,y] 45)).alloc (.cells #[.func (.func 205) #[] lb] 106)) (w.heap.size) (.int .i64 W) (.int .i64 H) (x) (r) (y):=⟨by simp [go_sem],by simp [go_sem],by simp [go_sem],by simp [go_sem],by simp [go_sem]⟩
 have b0:((w.alloc (.cells #[.int .i64 W,.int .i64 H,x,r,y] 45)).alloc (.cells #[.func (.func 205) #[] lb] 106)).cell? ⟨w.heap.size+1,0,none⟩=some (.func (.func 205) #[] lb):=by simp [go_sem]
 have kA:Kp w ((w.alloc (.cells #[.int .i64 W,.int .i64 H,x,r,y] 45)).alloc (.cells #[.func (.func 205) #[] lb] 106)):=((Kp.refl w).alloc _).alloc _
 have zA:((w.alloc (.cells #[.int .i64 W,.int .i64 H,x,r,y] 45)).alloc (.cells #[.func (.func 205) #[] lb] 106)).heap.size=w.heap.size+2:=by simp
 have HQ:=Lib.hid hq
 have hk0:=hk.size
 have hmk:=fun w=>mkWays N (by omega) w
 clear ht HP hs hN hq
 go_enter Tryz.func204,Tryz.ntmps204
 go_wp2_with fail
 refine(CC.out _).mono ?_
 rintro e1 w1 ⟨rfl,k1⟩
 have hz1:w.heap.size+2≤w1.heap.size:=by have:=k1.size;omega
 have k3:Kp w1 (((w1.alloc (.cells (madeCells #[.slice none 0 0] N) 26)).alloc (.cells #[.slice (some ⟨w1.heap.size,0,none⟩) N N] 213)).alloc (.cells #[.slice none 0 0] 26)):=(((Kp.refl w1).alloc _).alloc _).alloc _
 have HF0:=Lib.hid (fw_start w1 N hN2 213 26)
 have s3:ce5 (((w1.alloc (.cells (madeCells #[.slice none 0 0] N) 26)).alloc (.cells #[.slice (some ⟨w1.heap.size,0,none⟩) N N] 213)).alloc (.cells #[.slice none 0 0] 26)) (w.heap.size) (.int .i64 W) (.int .i64 H) (x) (r) (y):=⟨k3.cell (k1.cell s0.1),k3.cell (k1.cell s0.2.1),k3.cell (k1.cell s0.2.2.1),k3.cell (k1.cell s0.2.2.2.1),k3.cell (k1.cell s0.2.2.2.2)⟩
 have b3:=k3.cell (k1.cell b0)
 have kW3:Kp w (((w1.alloc (.cells (madeCells #[.slice none 0 0] N) 26)).alloc (.cells #[.slice (some ⟨w1.heap.size,0,none⟩) N N] 213)).alloc (.cells #[.slice none 0 0] 26)):=(kA.trans k1).trans k3
 have HS3:=Lib.hid s3
 have HB3:=Lib.hid b3
 clear s0 b0 s3 b3 k1 k3 kA zA
 go_upto_region 3 with (fail)
 clear hmk
 generalize (((w1.alloc (.cells (madeCells #[.slice none 0 0] N) 26)).alloc (.cells #[.slice (some ⟨w1.heap.size,0,none⟩) N N] 213)).alloc (.cells #[.slice none 0 0] 26))=W3 at *
 have HCE:=Lib.hid (extend_any lb ok N w1.heap.size (w1.heap.size+1) (w.heap.size+1) (w1.heap.size+1+1) (w1.heap.size+1+1+1) [] [] src none 0 0 qv (.slice none 0 0) W1 W3 HPP.out (hk.trans kW3) (by omega) (by omega) HF0.out (Wrq.nil N) HB3.out ⟨by omega,by omega,by omega⟩ ⟨none,0,rfl,fun h=>by cases h⟩ rfl (fun _=>⟨rfl,rfl⟩) (Nat.le_refl _) (by omega) (fun g off n c h=>by cases h) (HQ.out.keep kW3) (HQ.out.away kW3.size (by omega) (by omega) (fun g _ h=>by cases h)) HS.out hsl hN2)
 have hW1:W1.heap.size≤w.heap.size:=hk0
 have hzW:w.heap.size+2≤W3.heap.size:=by have:=HF0.out.sz;omega
 clear HF0 HQ HS
 go_wp2_with fail
 refine HCE.out.mono ?_
 rintro e4 w4 ⟨rfl,vr4,F4,Wr4,O4⟩
 obtain⟨Q0,hQ0⟩:∃ Q0,Q0=wayQ ok W H src 0:=⟨_,rfl⟩
 have HF4:Hid (FwAt w4 w1.heap.size (w1.heap.size+1) (w1.heap.size+1+1) (w1.heap.size+1+1+1) N (lookN [] Q0) (keysQ Q0) vr4):=Lib.hid (by rw [hQ0];exact F4)
 have HO4:=Lib.hid O4
 have HI4:Hid (Q0=wayQ ok W H src 0∧0≤Q0.length∧Wrq N Q0):=Lib.hid ⟨hQ0,by omega,by rw [hQ0];exact Wr4⟩
 clear hQ0
 clear HCE F4 Wr4 O4
 go_wp2_with fail
 go_loopw [10] (fun i wx=>∃ (n:Nat) (Q:List (Nat × List Nat)) (vr:Value),i=.int .i64 n∧Hid (Q=wayQ ok W H src n∧n≤Q.length∧Wrq N Q)∧Hid (FwAt wx w1.heap.size (w1.heap.size+1) (w1.heap.size+1+1) (w1.heap.size+1+1+1) N (lookN [] Q) (keysQ Q) vr)∧Hid (OthK w1.heap.size (w1.heap.size+1+1) W3 wx (.slice none 0 0) vr)) (fun i _=>N - (intOf i).toNat)
 case atStart=>exact⟨0,Q0,vr4,rfl,HI4,HF4,HO4⟩
 case round =>
  clear HI4 HF4 HO4
  obtain⟨n,Q,vr,rfl,HI,HF,HO⟩:=hrel
  have hnQ:=HI.out.2.1
  have hQN:=HI.out.2.2.len
  have hkr:Kp w wr:=HO.out.kp kW3 (by omega) (by omega) (fun g e=>by cases e)
  have c0:=HF.out.cw
  have c1:=HF.out.cr
  obtain⟨Ar,cr,hvr⟩:∃ A c,vr=.slice A Q.length c:=by
   obtain⟨A,c,h⟩:=HF.out.que.slice
   exact⟨A,c,by rw [h,ints_len,keysQ_len]⟩
  subst hvr
  by_cases hlt:n<Q.length
  ·have hlt':(n:Int)<Q.length:=by omega
   obtain⟨⟨x0,p⟩,hxp⟩:∃ z,Q[n]?=some z:=⟨Q[n],List.getElem?_eq_getElem hlt⟩
   have hxb:=HI.out.2.2.bd _ (List.mem_of_getElem? hxp)
   have hpn:p.length≤n+1:=HPL.out n n (x0,p) (by rw [← HI.out.1];exact hxp)
   simp only at hxb
   have hx0':(x0:Int)<N:=by omega
   have HNX:Hid (bfExt (fun (p:List Nat) k=>p++[k]) ok p Q (nbS W H x0)=wayQ ok W H src (n+1)):=Lib.hid (by
    have h1:=HI.out.1
    have h2:=bfQ_next (nx:=(fun (p:List Nat) k=>p++[k])) (ok:=ok) (nb:=nbS W H) (p0:=[]) (src:=src) (n:=n) (e:=(x0,p)) (by rw [h1] at hxp;exact hxp)
    rw [h1]
    exact h2.symm)
   have hLK:=lookN_mem (p0:=[]) HI.out.2.2.nd (List.mem_of_getElem? hxp)
   simp only at hLK
   obtain⟨gv,cr',hv4,c2⟩:=HF.out.que.at (ints_at (keysQ_at hxp))
   rw [ints_len,keysQ_len] at hv4
   obtain⟨rfl,rfl⟩:Ar=some ⟨gv,0,none⟩∧cr=cr':=by
    simp only [Value.slice.injEq] at hv4
    exact⟨hv4.1,hv4.2.2⟩
   clear hv4
   obtain⟨xw,c3,ow,fw⟩:=HF.out.cell hxb.1
   rw [hLK] at ow
   obtain⟨Ax,cx,hxw⟩:∃ A c,xw=.slice A p.length c:=by
    obtain⟨A,c,h⟩:=ow.slice
    exact⟨A,c,by rw [h,ints_len]⟩
   subst hxw
   have hcap:=(OwnI.cap ow).2
   have HOW:=Lib.hid ow
   have hlt3:=HF.out.lt
   have hsw:=HF.out.sz
   have HAW:=Lib.hid (ow.away (GW:=w1.heap.size) (br:=w1.heap.size+1+1) (by omega) (by omega) fw)
   obtain⟨d0,d1,d2,d3,d4⟩:=HS3.out
   have hne:∀ j,j<w1.heap.size→∀ (o:Nat) (v:Value),W3.cell? ⟨j,o,none⟩=some v→wr.cell? ⟨j,o,none⟩=some v:=fun j hj o v h=>HO.out.cell h (by show j ≠ _;omega) (by show j ≠ _;omega) (fun e=>by cases e)
   have m0:=hne _ (by omega) _ _ d0
   have m1:=hne _ (by omega) _ _ d1
   have m2:=hne _ (by omega) _ _ d2
   have m3:=hne _ (by omega) _ _ d3
   have m4:=hne _ (by omega) _ _ d4
   have HB4:=Lib.hid (hne _ (by omega) _ _ HB3.out)
   clear d0 d1 d2 d3 d4 hne hLK ow fw
   have CQ:=Lib.hid (fun w ht=>CN.out x0 w ht (by have:=HNN.out;omega))
   generalize hnp:p.length=np at *
   have HNP:=Lib.hid hnp
   clear hnp
   have HXP:=Lib.hid hxp
   clear hxp
   have sg:wr.drew.cell? ⟨w1.heap.size+1,0,none⟩=some (.slice (some ⟨w1.heap.size,0,none⟩) N N)∧wr.drew.cell? ⟨w1.heap.size+1+1,0,none⟩=some (.slice (some ⟨gv,0,none⟩) Q.length cr)∧wr.drew.cell? ⟨gv,n,none⟩=some (.int .i64 (x0:Int))∧wr.drew.cell? ⟨w1.heap.size,x0,none⟩=some (.slice Ax np cx)∧cb5 (wr.drew) (w.heap.size) (.int .i64 W) (.int .i64 H) (x) (r) (y) (Kp wr wr.drew):=⟨c0,c1,c2,c3,m0,m1,m2,m3,m4,(Kp.refl wr).drew⟩
   clear c0 c2 c3 m0 m1 m2 m3 m4
   go_upto_region 8 with (fail)
   clear c1
   refine wp_region_last 14 (S:=fun w'=>w'.cell? ⟨w1.heap.size+1,0,none⟩=some (.slice (some ⟨w1.heap.size,0,none⟩) N N)∧w'.cell? ⟨w1.heap.size+1+1,0,none⟩=some (.slice (some ⟨gv,0,none⟩) Q.length cr)∧w'.cell? ⟨gv,n,none⟩=some (.int .i64 (x0:Int))∧w'.cell? ⟨w1.heap.size,x0,none⟩=some (.slice Ax np cx)∧cb5 w' (w.heap.size) (.int .i64 W) (.int .i64 H) (x) (r) (y) (Kp wr w')) (by kernel_rfl) ?_ (fun hHeld=>?_)
   ·assumption
   generalize wr.drew=V at *
   clear sg
   refine wpAnyL_take (i:=0) (oi:=⟨some 24,_,_,_,_,_⟩) (v:=?_) rfl (by kernel_rfl) (by kernel_rfl) (by kernel_rfl) (by kernel_rfl) (by kernel_rfl) (fun _ _ _ h=>h) (Or.inl ⟨by rfl,?_⟩) (by assumption) ?_
   rotate_left
   ·intro w hSw;(try dsimp only at hSw);go_simp;(all_goals with_reducible rfl)
   try simp only [Act.put,sA,sB,sC]
   refine wpAnyL_take (i:=1) (oi:=⟨some 25,_,_,_,_,_⟩) (v:=?_) rfl (by kernel_rfl) (by kernel_rfl) (by kernel_rfl) (by kernel_rfl) (by kernel_rfl) (fun _ _ _ h=>h) (Or.inl ⟨by rfl,?_⟩) (by assumption) ?_
   rotate_left
   ·intro w hSw;(try dsimp only at hSw);go_simp;(all_goals with_reducible rfl)
   try simp only [Act.put,sA,sB,sC]
   refine wpAnyL_take (i:=2) (oi:=⟨some 26,_,_,_,_,_⟩) (v:=?_) rfl (by kernel_rfl) (by kernel_rfl) (by kernel_rfl) (by kernel_rfl) (by kernel_rfl) (fun _ _ _ h=>h) (Or.inl ⟨by rfl,?_⟩) (by assumption) ?_
   rotate_left
   ·intro w hSw;(try dsimp only at hSw);go_simp;(all_goals with_reducible rfl)
   try simp only [Act.put,sA,sB,sC]
   refine wpAnyL_take (i:=3) (oi:=⟨some 27,_,_,_,_,_⟩) (v:=?_) rfl (by kernel_rfl) (by kernel_rfl) (by kernel_rfl) (by kernel_rfl) (by kernel_rfl) (fun _ _ _ h=>h) (Or.inl ⟨by rfl,?_⟩) (by assumption) ?_
   rotate_left
   ·intro w hSw;(try dsimp only at hSw);go_simp;(all_goals with_reducible rfl)
   try simp only [Act.put,sA,sB,sC]
   refine wpAnyL_take (i:=4) (oi:=⟨some 28,_,_,_,_,_⟩) (v:=?_) rfl (by kernel_rfl) (by kernel_rfl) (by kernel_rfl) (by kernel_rfl) (by kernel_rfl) (fun _ _ _ h=>h) (Or.inl ⟨by rfl,?_⟩) (by assumption) ?_
   rotate_left
   ·intro w hSw;(try dsimp only at hSw);go_simp;(all_goals with_reducible rfl)
   try simp only [Act.put,sA,sB,sC]
   refine wpAnyL_take (i:=5) (oi:=⟨some 29,_,_,_,_,_⟩) (v:=?_) rfl (by kernel_rfl) (by kernel_rfl) (by kernel_rfl) (by kernel_rfl) (by kernel_rfl) (fun _ _ _ h=>h) (Or.inl ⟨by rfl,?_⟩) (by assumption) ?_
   rotate_left
   ·intro w hSw;(try dsimp only at hSw);go_simp;(all_goals with_reducible rfl)
   try simp only [Act.put,sA,sB,sC]
   refine wpAnyL_take (i:=6) (oi:=⟨some 30,_,_,_,_,_⟩) (v:=?_) rfl (by kernel_rfl) (by kernel_rfl) (by kernel_rfl) (by kernel_rfl) (by kernel_rfl) (fun _ _ _ h=>h) (Or.inl ⟨by rfl,?_⟩) (by assumption) ?_
   rotate_left
   ·intro w hSw;(try dsimp only at hSw);go_simp;(all_goals with_reducible rfl)
   try simp only [Act.put,sA,sB,sC]
   refine wpAnyL_take (i:=7) (oi:=⟨some 31,_,_,_,_,_⟩) (v:=?_) rfl (by kernel_rfl) (by kernel_rfl) (by kernel_rfl) (by kernel_rfl) (by kernel_rfl) (fun _ _ _ h=>h) (Or.inl ⟨by rfl,?_⟩) (by assumption) ?_
   rotate_left
   ·intro w hSw;(try dsimp only at hSw);go_simp;(all_goals with_reducible rfl)
   try simp only [Act.put,sA,sB,sC]
   refine wpAnyL_take (i:=8) (oi:=⟨some 32,_,_,_,_,_⟩) (v:=?_) rfl (by kernel_rfl) (by kernel_rfl) (by kernel_rfl) (by kernel_rfl) (by kernel_rfl) (fun _ _ _ h=>h) (Or.inl ⟨by rfl,?_⟩) (by assumption) ?_
   rotate_left
   ·intro w hSw;(try dsimp only at hSw);go_simp;(all_goals with_reducible rfl)
   try simp only [Act.put,sA,sB,sC]
   refine wpAnyL_take (i:=9) (oi:=⟨some 33,_,_,_,_,_⟩) (v:=?_) rfl (by kernel_rfl) (by kernel_rfl) (by kernel_rfl) (by kernel_rfl) (by kernel_rfl) (fun _ _ _ h=>h) (Or.inl ⟨by rfl,?_⟩) (by assumption) ?_
   rotate_left
   ·intro w hSw;(try dsimp only at hSw);go_simp;(all_goals with_reducible rfl)
   try simp only [Act.put,sA,sB,sC]
   refine wpAnyL_take (i:=10) (oi:=⟨some 34,_,_,_,_,_⟩) (v:=?_) rfl (by kernel_rfl) (by kernel_rfl) (by kernel_rfl) (by kernel_rfl) (by kernel_rfl) (fun _ _ _ h=>h) (Or.inl ⟨by rfl,?_⟩) (by assumption) ?_
   rotate_left
   ·intro w hSw;(try dsimp only at hSw);go_simp;(all_goals with_reducible rfl)
   try simp only [Act.put,sA,sB,sC]
   refine wpAnyL_take (i:=11) (oi:=⟨some 35,_,_,_,_,_⟩) (v:=?_) rfl (by kernel_rfl) (by kernel_rfl) (by kernel_rfl) (by kernel_rfl) (by kernel_rfl) (fun _ _ _ h=>h) (Or.inl ⟨by rfl,?_⟩) (by assumption) ?_
   rotate_left
   ·intro w hSw;(try dsimp only at hSw);go_simp;(all_goals with_reducible rfl)
   try simp only [Act.put,sA,sB,sC]
   refine wpAnyL_take (i:=12) (oi:=⟨some 36,_,_,_,_,_⟩) (v:=?_) rfl (by kernel_rfl) (by kernel_rfl) (by kernel_rfl) (by kernel_rfl) (by kernel_rfl) (fun _ _ _ h=>h) (Or.inl ⟨by rfl,?_⟩) (by assumption) ?_
   rotate_left
   ·intro w hSw;(try dsimp only at hSw);go_simp;(all_goals with_reducible rfl)
   try simp only [Act.put,sA,sB,sC]
   refine wpAnyL_ready (rs:=[13]) (by kernel_rfl) (by simp) ?_
   refine(AllReadyL.cons (o:=⟨some 37,_,_,_,_,_⟩) rfl (fun K hK=>?_) AllReadyL.nil)
   go_simp
   refine(CQ.out _ (HT.out.keep (hkr.trans hHeld.2.2.2.2.2.2.2.2.2))).mono ?_
   rintro e5 w5 ⟨nv,rfl,on,k5⟩
   have s5:=keepf9 k5 hHeld
   have on2:OwnI w5 wr.heap.size nv (ints (nbS W H x0)):=on.base hHeld.2.2.2.2.2.2.2.2.2.size
   have HON:=Lib.hid on2
   clear on on2
   obtain⟨An,nn,cn,hnv⟩:∃ A n c,nv=.slice A n c:=by
    obtain⟨A,c,h⟩:=HON.out.slice
    exact⟨A,_,c,h⟩
   subst hnv
   go_wp2_with fail
   refine hK.out _ _ ?_ (fun hHeld=>?_)
   ·(try dsimp only);(first | assumption)
   clear hK K s5
   try simp only [Act.put,sA,sB,sC]
   have k50:=hHeld.2.2.2.2.2.2.2.2.2
   have HCE:=Lib.hid (extend_any lb ok N w1.heap.size (w1.heap.size+1) (w.heap.size+1) (w1.heap.size+1+1) (w1.heap.size+1+1+1) Q p (nbS W H x0) Ax np cx (.slice An nn cn) (.slice (some ⟨gv,0,none⟩) Q.length cr) W1 w5 HPP.out ((hk.trans hkr).trans k50) (by omega) (by omega) (HF.out.keep k50) HI.out.2.2 (k50.cell HB4.out) ⟨by omega,by omega,by omega⟩ (HOW.out.keep k50).rd HNP.out (fun h=>by omega) hcap (by omega) (fun g off n' c h hn'=>by
    obtain⟨a1,a2,a3,a4⟩:=HAW.out g off n' c h hn'
    exact⟨by have:=k50.size;omega,a2,a3,a4⟩) HON.out.rd (HON.out.away (by omega) (by omega) (fun g h1 h2=>by
     have h3:=(World.ownsRow.lt HON.out g h1).1
     have h4:=(World.ownsRow.lt HF.out.que g h2).2
     omega)) (HNB.out x0) (by have:=nbS_len W H x0;omega) hN2)
   refine wpAnyL_ready (rs:=[14]) (by kernel_rfl) (by simp) ?_
   refine(AllReadyL.last (o:=⟨some 38,_,_,_,_,_⟩) rfl (fun K hK=>?_) AllReadyL.nil)
   go_simp
   refine HCE.out.mono ?_
   rintro e6 w6 ⟨rfl,vr6,F6,Wr6,O6⟩
   have HI7:Hid (bfExt (fun (p:List Nat) k=>p++[k]) ok p Q (nbS W H x0)=wayQ ok W H src (n+1)∧n+1≤(bfExt (fun (p:List Nat) k=>p++[k]) ok p Q (nbS W H x0)).length∧Wrq N (bfExt (fun (p:List Nat) k=>p++[k]) ok p Q (nbS W H x0))):=Lib.hid ⟨HNX.out,by
    obtain⟨t,ht⟩:=bfExt_prefix (nx:=(fun (p:List Nat) k=>p++[k])) (ok:=ok) p (nbS W H x0) Q
    rw [ht,List.length_append]
    omega,Wr6⟩
   have HF7:=Lib.hid F6
   have HO7:=Lib.hid ((HO.out.trans (OthK.of k50)).trans O6)
   clear F6 Wr6 O6 HCE HI HF HO HON HAW HOW hHeld HB4 k50 k5
   go_wp2_with fail
   refine hK.out _ _ ?_
   clear hK K
   try simp only [Act.put,sA,sB,sC]
   refine wpAnyL_done (by kernel_rfl) ?_ _
   go_wp2_with fail
   go_roundw
   case rel=>exact⟨n+1,_,vr6,by go_num,HI7,HF7,HO7⟩
   case measure=>simp [intOf];omega
  ·obtain rfl:n=Q.length:=by omega
   have HW:Hid (wayQ ok W H src N=Q):=Lib.hid (by
    have h1:=bfQ_fin (nx:=(fun (p:List Nat) k=>p++[k])) (ok:=ok) (nb:=nbS W H) (p0:=[]) (src:=src) (n:=Q.length) (N:=N) (Nat.le_of_eq (congrArg List.length HI.out.1).symm) hQN
    have h3:=HI.out.1
    unfold wayQ at h3 ⊢
    rw [h1,← h3])
   go_wp2_with fail
   go_ret
   refine⟨_,rfl,by omega,fun k hk=>?_,hkr⟩
   obtain⟨z,z1,z2,_⟩:=HF.out.cell hk
   refine⟨z,z1,?_⟩
   unfold wayN
   rw [HW.out]
   exact z2.base (by omega)
end Go.Proofs.YtacgknllagdkoaaGreatDoor
