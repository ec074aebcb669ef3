/-
 Texts of this seat in one module: UnT.
-/
import Derived.Test.YtacgknllagdkoaaGreatDoorQq
/-
 The reference's test of a unit, its lists of units, its test of a state. Nothing that was there is changed.
-/
namespace Go.Proofs.YtacgknllagdkoaaGreatDoor
open Go.RowKit
theorem uni_getT {us:List Uni} {N q:Nat} (hN:us.length=N) (hq:q<N):∃ s k a t,us[q]?=some ⟨s,k,a,t⟩:=⟨_,_,_,_,List.getElem?_eq_getElem (by omega)⟩
theorem keept15 {W0 w w1:World} {p0 p1 p2 p3 p4 p5 p6 p7 p8 p9 p10 p11 p12 p13 p14:Addr} {v0 v1 v2 v3 v4 v5 v6 v7 v8 v9 v10 v11 v12 v13 v14:Value} (k:Kp w w1) (h:w.cell? p0=some v0∧w.cell? p1=some v1∧w.cell? p2=some v2∧w.cell? p3=some v3∧w.cell? p4=some v4∧w.cell? p5=some v5∧w.cell? p6=some v6∧w.cell? p7=some v7∧w.cell? p8=some v8∧w.cell? p9=some v9∧w.cell? p10=some v10∧w.cell? p11=some v11∧w.cell? p12=some v12∧w.cell? p13=some v13∧w.cell? p14=some v14∧Kp W0 w):w1.cell? p0=some v0∧w1.cell? p1=some v1∧w1.cell? p2=some v2∧w1.cell? p3=some v3∧w1.cell? p4=some v4∧w1.cell? p5=some v5∧w1.cell? p6=some v6∧w1.cell? p7=some v7∧w1.cell? p8=some v8∧w1.cell? p9=some v9∧w1.cell? p10=some v10∧w1.cell? p11=some v11∧w1.cell? p12=some v12∧w1.cell? p13=some v13∧w1.cell? p14=some v14∧Kp W0 w1 :=
 ⟨k.cell h.1,k.cell h.2.1,k.cell h.2.2.1,k.cell h.2.2.2.1,k.cell h.2.2.2.2.1,k.cell h.2.2.2.2.2.1,k.cell h.2.2.2.2.2.2.1,k.cell h.2.2.2.2.2.2.2.1,k.cell h.2.2.2.2.2.2.2.2.1,k.cell h.2.2.2.2.2.2.2.2.2.1,k.cell h.2.2.2.2.2.2.2.2.2.2.1,k.cell h.2.2.2.2.2.2.2.2.2.2.2.1,k.cell h.2.2.2.2.2.2.2.2.2.2.2.2.1,k.cell h.2.2.2.2.2.2.2.2.2.2.2.2.2.1,k.cell h.2.2.2.2.2.2.2.2.2.2.2.2.2.2.1,h.2.2.2.2.2.2.2.2.2.2.2.2.2.2.2.trans k⟩
theorem keept19 {W0 w w1:World} {p0 p1 p2 p3 p4 p5 p6 p7 p8 p9 p10 p11 p12 p13 p14 p15 p16 p17 p18:Addr} {v0 v1 v2 v3 v4 v5 v6 v7 v8 v9 v10 v11 v12 v13 v14 v15 v16 v17 v18:Value} (k:Kp w w1) (h:w.cell? p0=some v0∧w.cell? p1=some v1∧w.cell? p2=some v2∧w.cell? p3=some v3∧w.cell? p4=some v4∧w.cell? p5=some v5∧w.cell? p6=some v6∧w.cell? p7=some v7∧w.cell? p8=some v8∧w.cell? p9=some v9∧w.cell? p10=some v10∧w.cell? p11=some v11∧w.cell? p12=some v12∧w.cell? p13=some v13∧w.cell? p14=some v14∧w.cell? p15=some v15∧w.cell? p16=some v16∧w.cell? p17=some v17∧w.cell? p18=some v18∧Kp W0 w):w1.cell? p0=some v0∧w1.cell? p1=some v1∧w1.cell? p2=some v2∧w1.cell? p3=some v3∧w1.cell? p4=some v4∧w1.cell? p5=some v5∧w1.cell? p6=some v6∧w1.cell? p7=some v7∧w1.cell? p8=some v8∧w1.cell? p9=some v9∧w1.cell? p10=some v10∧w1.cell? p11=some v11∧w1.cell? p12=some v12∧w1.cell? p13=some v13∧w1.cell? p14=some v14∧w1.cell? p15=some v15∧w1.cell? p16=some v16∧w1.cell? p17=some v17∧w1.cell? p18=some v18∧Kp W0 w1 :=
 ⟨k.cell h.1,k.cell h.2.1,k.cell h.2.2.1,k.cell h.2.2.2.1,k.cell h.2.2.2.2.1,k.cell h.2.2.2.2.2.1,k.cell h.2.2.2.2.2.2.1,k.cell h.2.2.2.2.2.2.2.1,k.cell h.2.2.2.2.2.2.2.2.1,k.cell h.2.2.2.2.2.2.2.2.2.1,k.cell h.2.2.2.2.2.2.2.2.2.2.1,k.cell h.2.2.2.2.2.2.2.2.2.2.2.1,k.cell h.2.2.2.2.2.2.2.2.2.2.2.2.1,k.cell h.2.2.2.2.2.2.2.2.2.2.2.2.2.1,k.cell h.2.2.2.2.2.2.2.2.2.2.2.2.2.2.1,k.cell h.2.2.2.2.2.2.2.2.2.2.2.2.2.2.2.1,k.cell h.2.2.2.2.2.2.2.2.2.2.2.2.2.2.2.2.1,k.cell h.2.2.2.2.2.2.2.2.2.2.2.2.2.2.2.2.2.1,k.cell h.2.2.2.2.2.2.2.2.2.2.2.2.2.2.2.2.2.2.1,h.2.2.2.2.2.2.2.2.2.2.2.2.2.2.2.2.2.2.2.trans k⟩
theorem drewt19 {W0 w:World} {p0 p1 p2 p3 p4 p5 p6 p7 p8 p9 p10 p11 p12 p13 p14 p15 p16 p17 p18:Addr} {v0 v1 v2 v3 v4 v5 v6 v7 v8 v9 v10 v11 v12 v13 v14 v15 v16 v17 v18:Value} (h:w.cell? p0=some v0∧w.cell? p1=some v1∧w.cell? p2=some v2∧w.cell? p3=some v3∧w.cell? p4=some v4∧w.cell? p5=some v5∧w.cell? p6=some v6∧w.cell? p7=some v7∧w.cell? p8=some v8∧w.cell? p9=some v9∧w.cell? p10=some v10∧w.cell? p11=some v11∧w.cell? p12=some v12∧w.cell? p13=some v13∧w.cell? p14=some v14∧w.cell? p15=some v15∧w.cell? p16=some v16∧w.cell? p17=some v17∧w.cell? p18=some v18∧Kp W0 w):w.drew.cell? p0=some v0∧w.drew.cell? p1=some v1∧w.drew.cell? p2=some v2∧w.drew.cell? p3=some v3∧w.drew.cell? p4=some v4∧w.drew.cell? p5=some v5∧w.drew.cell? p6=some v6∧w.drew.cell? p7=some v7∧w.drew.cell? p8=some v8∧w.drew.cell? p9=some v9∧w.drew.cell? p10=some v10∧w.drew.cell? p11=some v11∧w.drew.cell? p12=some v12∧w.drew.cell? p13=some v13∧w.drew.cell? p14=some v14∧w.drew.cell? p15=some v15∧w.drew.cell? p16=some v16∧w.drew.cell? p17=some v17∧w.drew.cell? p18=some v18∧Kp W0 w.drew :=
 ⟨h.1,h.2.1,h.2.2.1,h.2.2.2.1,h.2.2.2.2.1,h.2.2.2.2.2.1,h.2.2.2.2.2.2.1,h.2.2.2.2.2.2.2.1,h.2.2.2.2.2.2.2.2.1,h.2.2.2.2.2.2.2.2.2.1,h.2.2.2.2.2.2.2.2.2.2.1,h.2.2.2.2.2.2.2.2.2.2.2.1,h.2.2.2.2.2.2.2.2.2.2.2.2.1,h.2.2.2.2.2.2.2.2.2.2.2.2.2.1,h.2.2.2.2.2.2.2.2.2.2.2.2.2.2.1,h.2.2.2.2.2.2.2.2.2.2.2.2.2.2.2.1,h.2.2.2.2.2.2.2.2.2.2.2.2.2.2.2.2.1,h.2.2.2.2.2.2.2.2.2.2.2.2.2.2.2.2.2.1,h.2.2.2.2.2.2.2.2.2.2.2.2.2.2.2.2.2.2.1,h.2.2.2.2.2.2.2.2.2.2.2.2.2.2.2.2.2.2.2.drew⟩
theorem sUnit_any (At Ak:Option Addr) (nt nk ct ck:Nat) (l:List Ter) (m:List Knd) (a b c d e W H:Int) (x r y:Value) (lt lr ld:List Int) (sx kx ax tx:Int) (w:World) (hB:BrdAt w At Ak nt nk l m x r y lt lr ld) (hok:brdOk ⟨l,m,a,b,c,d,e⟩ W H lt lr ld=true) :
  Calls Tryz.prog 128 #[bv (.slice At nt ct) (.slice Ak nk ck) a b c d e W H x r y,ux sx kx ax tx] w fun e' w'=>e'=.returned (.bool (uniOk l m W H lt ⟨sx,kx,ax,tx⟩))∧Kp w w':=by
 have hml:=hB.R.rk.1
 cases h1:spB 0 1 sx
 ·have q0:uniOk l m W H lt ⟨sx,kx,ax,tx⟩=false:=by simp [uniOk,h1]
  rw [q0]
  exact sUnit_no1 At Ak nt nk ct ck a b c d e W H x r y sx kx ax tx w h1
 cases h2:inB kx nk
 ·have q0:uniOk l m W H lt ⟨sx,kx,ax,tx⟩=false:=by simp [uniOk,hml,h2]
  rw [q0]
  exact sUnit_no2 At Ak nt nk ct ck a b c d e W H x r y sx kx ax tx w hB.R.bk h1 h2
 obtain⟨K,rfl,hK⟩:=inB_at h2
 obtain⟨gk,ok,rfl,hck⟩:=hB.R.rk.2 (by omega)
 obtain⟨kd,hkd⟩:∃ kd,m[K]?=some kd:=⟨m[K]'(by omega),List.getElem?_eq_getElem _⟩
 obtain⟨_,_,_,q3,_,_⟩:=hck K kd hkd
 have est:stN m (K:Int)=kd.stp:=by unfold stN;rw [Int.toNat_natCast,hkd];rfl
 have e0:uniOk l m W H lt ⟨sx,(K:Int),ax,tx⟩=(spB 0 kd.stp tx && (decide (ax=-1) || ((decide (0<tx) && onI W H ax) && decide (0<costB l lt K ax.toNat)))):=by
  simp only [uniOk,h1,hml,h2,est,Bool.true_and,Int.toNat_natCast]
 have e1:uniOk l m W H lt ⟨sx,(K:Int),ax,tx⟩=uniR l lt W H K kd.stp ax tx:=e0
 rw [e1]
 cases h3:spB 0 kd.stp tx
 ·have q0:uniR l lt W H K kd.stp ax tx=false:=by unfold uniR;rw [h3,Bool.false_and]
  rw [q0]
  exact sUnit_no3 At nt nk ct ck l m a b c d e W H x r y lt lr ld gk ok kd.stp sx tx K ax w hB h1 hK q3 h3
 ·exact sUnit_main At nt nk ct ck l m a b c d e W H x r y lt lr ld gk ok kd.stp sx ax tx K w hB hok h1 hK q3 h3
set_option maxRecDepth 100000 in
theorem sAt_any (T Z:Int) (u:Value) (us:List Uni) (i s:Int) (w:World) (h:StaAt w u us) (hn:us.length≤12) :
  Calls Tryz.prog 129 #[sv T Z u,.int .i64 i,.int .i64 s] w fun e w'=>∃ v,e=.returned v∧OwnI w' w.heap.size v (unL (inHexS i s) us us.length)∧Kp w w':=by
 obtain⟨A,cp,rfl,hA⟩:=h.rd
 obtain⟨N,hN⟩:∃ N,us.length=N:=⟨_,rfl⟩
 have HN:=Lib.hid hN
 rw [hN] at hA hn ⊢
 have HA:=Lib.hid hA
 have KA:Kp w (w.alloc (.cells #[.int .i64 T,.int .i64 Z,.slice A N cp] 51)):=(Kp.refl w).alloc _
 obtain⟨F,hF⟩:∃ F:Uni→Bool,F=inHexS i s:=⟨_,rfl⟩
 rw [← hF]
 have HF:=Lib.hid hF
 obtain⟨j0,hj0,hz0,hs0,hb0⟩:=info_parts infoInt
 clear h hA hN hF
 go_enter Tryz.func129,Tryz.ntmps129
 go_wp2_with fail
 go_loopw [7,13] (fun v iq wx=>∃ q:Nat,q≤N∧iq=.int .i64 q∧OwnI wx (w.heap.size+1) v (unL F us q)∧w.heap.size<wx.heap.size∧Kp w wx) (fun _ iq _=>N - (intOf iq).toNat)
 case atStart=>exact⟨0,by omega,rfl,OwnI.nil _ _,by simp,KA⟩
 case round =>
  clear KA
  obtain⟨q,hq,rfl,ho,hz,kr⟩:=hrel
  by_cases hlt:q<N
  ·have hlt':(q:Int)<N:=by omega
   obtain⟨g,off,rfl,hc⟩:=HA.out (by omega)
   obtain⟨sx,kx,ax,tx,hx⟩:=uni_getT HN.out hlt
   obtain⟨a0,a1,a2,a3⟩:=(hc q _ hx).keep kr
   simp only at a0 a1 a2 a3
   have HO:=Lib.hid ho
   have hln:=Lib.hid (unL_len F us q)
   clear hc ho
   by_cases m1:ax=i
   ·subst m1
    by_cases m2:sx=s
    ·subst m2
     have HS:Hid (unL F us (q+1)=unL F us q++[(q:Int)]):=Lib.hid (unL_yes hx (by rw [HF.out];simp [inHexS]))
     clear hx
     go_upto_region 6 with (fail)
     have kbw:Kp wr (wr.alloc (.cells #[.int .i64 sx,.int .i64 kx,.int .i64 ax,.int .i64 tx] 152)):=(Kp.refl wr).alloc _
     have HO1:=Lib.hid (HO.out.keep kbw)
     have k1:=kr.trans kbw
     have hz1:w.heap.size<(wr.alloc (.cells #[.int .i64 sx,.int .i64 kx,.int .i64 ax,.int .i64 tx] 152)).heap.size:=by simp;omega
     generalize wr.alloc (.cells #[.int .i64 sx,.int .i64 kx,.int .i64 ax,.int .i64 tx] 152)=W1 at *
     clear HO kbw kr
     go_wp2_with (at_builtin;refine wpList_append_own_at _ rfl (.tmp 28) (.tmp 30) 26 rfl (w.heap.size+1) 3 j0 (.int .i64 0) 1 8 Tryz.underlying26 hj0 hz0 hs0 hb0 rfl (by decide) _ (unL F us q).length (cellsI (unL F us q)) rfl (World.ownsRow.alloc HO1.out _) ⟨W1.heap.size,0,none⟩ 1 1 [.int .i64 q] rfl rfl (one_cell _ _ _) (by simp [Value.oneCell']) (by have:=hln.out;simp only [maxLen];omega) (by have:=hln.out;omega) (by simp;omega) ?_;intro v' w3 hown2 hgrow2 hnil2 hat2;clear hnil2 hat2;have K5:Kp w w3:=(k1.alloc _).grown hgrow2 (fun k e=>by have:=(World.ownsRow.lt HO1.out k e).1;omega);have hz3:w.heap.size<w3.heap.size:=(by have h5:=hgrow2.size;simp at h5;omega);have O3:=Lib.hid (OwnI.snoc (x:=q) hown2);clear hown2 hgrow2)
     go_roundw
     case rel=>exact⟨q+1,by omega,by go_num,by rw [HS.out];exact O3.out,hz3,K5⟩
     case measure=>simp [intOf];omega
    ·have hd:(sx == s)=false:=by simpa using m2
     have HS:Hid (unL F us (q+1)=unL F us q):=Lib.hid (unL_no hx (by rw [HF.out];simp [inHexS,m2]))
     clear hx
     go_wp2_with fail
     go_roundw
     case rel=>exact⟨q+1,by omega,by go_num,by rw [HS.out];exact HO.out.keep ((Kp.refl wr).alloc _),by simp;omega,kr.alloc _⟩
     case measure=>simp [intOf];omega
   ·have hd:(ax == i)=false:=by simpa using m1
    have HS:Hid (unL F us (q+1)=unL F us q):=Lib.hid (unL_no hx (by rw [HF.out];simp [inHexS,m1]))
    clear hx
    go_wp2_with fail
    go_roundw
    case rel=>exact⟨q+1,by omega,by go_num,by rw [HS.out];exact HO.out.keep ((Kp.refl wr).alloc _),by simp;omega,kr.alloc _⟩
    case measure=>simp [intOf];omega
  ·obtain rfl:q=N:=by omega
   go_wp2_with fail
   go_ret
   exact⟨_,rfl,ho.base (by omega),kr⟩
end Go.Proofs.YtacgknllagdkoaaGreatDoor
