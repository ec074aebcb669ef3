/-
 Texts of this seat in one module: RulS, BrdI.
-/
import Derived.Test.YtacgknllagdkoaaGreatDoorQb
import Derived.Test.YtacgknllagdkoaaGreatDoorQc
import Derived.Test.YtacgknllagdkoaaGreatDoorQe
import Derived.Test.YtacgknllagdkoaaGreatDoorQh
/-
 The reference's places of names and its test of rules return what plain functions on lists say, and change nothing that was there.
-/
namespace Go.Proofs.YtacgknllagdkoaaGreatDoor
open Go.RowKit
set_option maxRecDepth 100000 in
set_option maxHeartbeats 1000000 in
theorem rTerrain_any (A:Option Addr) (n c:Nat) (l:List Ter) (m:ByteArray) (w:World) (h:RdT w A n l) (hl:n≤1048576) :
  Calls Tryz.prog 209 #[.slice A n c,.string m] w fun e w'=>e=.returned (.int .i64 (idxS (tNames l) m))∧Kp w w':=by
 have HN:=Lib.hid h.1
 have HA:=Lib.hid h.2
 have HLn:Hid ((tNames l).length=n):=Lib.hid (by rw [← h.1];simp [tNames])
 obtain⟨R,hR⟩:∃ R,R=idxS (tNames l) m:=⟨_,rfl⟩
 rw [← hR]
 have HR:=Lib.hid hR
 clear h hR
 go_enter Tryz.func209,Tryz.ntmps209
 go_wp2_with fail
 go_loopw [5,6,9] (fun _ _ i wr=>∃ k:Nat,k≤n∧i=.int .i64 k∧Hid (∀ j,j<k→(tNames l).getD j ByteArray.empty ≠ m)∧Kp w wr) (fun _ _ i _=>n - (intOf i).toNat)
 case atStart=>exact⟨0,by omega,rfl,Lib.hid fun j hj=>absurd hj (by omega),Kp.refl _⟩
 case round =>
  obtain⟨k,hk,rfl,hE,kr⟩:=hrel
  by_cases hlt:k<n
  ·have hlt':(k:Int)<n:=by omega
   obtain⟨g,off,rfl,hc⟩:=HA.out (by omega)
   obtain⟨x,hx⟩:∃ x,l[k]?=some x:=⟨l[k]'(by have:=HN.out;omega),List.getElem?_eq_getElem _⟩
   obtain⟨Ac,cc,⟨a0,a1,a2,a3,a4⟩,_⟩:=(hc k x hx).keep kr
   have HX:Hid ((tNames l)[k]?=some x.name):=Lib.hid (by simp [tNames,hx])
   obtain⟨nm,cs,sh,hg,bl⟩:=x
   simp only at a0 a1 a2 a3 a4 HX
   generalize cs.length=nc at a1
   clear hc hx
   have KA:Kp wr (wr.alloc (.cells #[.string nm,.slice Ac nc cc,.int .i64 sh,.int .i64 hg,.bool bl] 230)):=(Kp.refl wr).alloc _
   by_cases hok:nm=m
   ·have HE2:Hid (R=(k:Int)):=Lib.hid (by rw [HR.out];exact idxS_hit (by rw [← hok];exact HX.out) hE.out)
    have he:(nm.toList == m.toList)=true:=(Lib.bytes_beq_iff nm m).2 hok
    clear hok
    go_wp2_with fail
    go_ret
    exact⟨ret_int HE2.out.symm,kr.trans KA⟩
   ·have HE2:=Lib.hid (not_more HX.out hok hE.out)
    have he:(nm.toList == m.toList)=false:=(Lib.bytes_beq_false_iff nm m).2 hok
    clear hok
    go_wp2_with fail
    go_roundw
    case rel=>exact⟨k+1,by omega,by go_num,HE2,kr.trans KA⟩
    case measure=>simp [intOf];omega
  ·obtain rfl:k=n:=by omega
   go_wp2_with fail
   go_ret
   refine⟨ret_int ?_,kr⟩
   rw [HR.out,idxS_miss (fun j hj=>hE.out j (by have:=HLn.out;omega))]
set_option maxRecDepth 100000 in
set_option maxHeartbeats 1000000 in
theorem rKind_any (A:Option Addr) (n c:Nat) (l:List Knd) (m:ByteArray) (w:World) (h:RdK w A n l) (hl:n≤1048576) :
  Calls Tryz.prog 210 #[.slice A n c,.string m] w fun e w'=>e=.returned (.int .i64 (idxS (kNames l) m))∧Kp w w':=by
 have HN:=Lib.hid h.1
 have HA:=Lib.hid h.2
 have HLn:Hid ((kNames l).length=n):=Lib.hid (by rw [← h.1];simp [kNames])
 obtain⟨R,hR⟩:∃ R,R=idxS (kNames l) m:=⟨_,rfl⟩
 rw [← hR]
 have HR:=Lib.hid hR
 clear h hR
 go_enter Tryz.func210,Tryz.ntmps210
 go_wp2_with fail
 go_loopw [5,6,9] (fun _ _ i wr=>∃ k:Nat,k≤n∧i=.int .i64 k∧Hid (∀ j,j<k→(kNames l).getD j ByteArray.empty ≠ m)∧Kp w wr) (fun _ _ i _=>n - (intOf i).toNat)
 case atStart=>exact⟨0,by omega,rfl,Lib.hid fun j hj=>absurd hj (by omega),Kp.refl _⟩
 case round =>
  obtain⟨k,hk,rfl,hE,kr⟩:=hrel
  by_cases hlt:k<n
  ·have hlt':(k:Int)<n:=by omega
   obtain⟨g,off,rfl,hc⟩:=HA.out (by omega)
   obtain⟨x,hx⟩:∃ x,l[k]?=some x:=⟨l[k]'(by have:=HN.out;omega),List.getElem?_eq_getElem _⟩
   obtain⟨a0,a1,a2,a3,a4,a5⟩:=(hc k x hx).keep kr
   have HX:Hid ((kNames l)[k]?=some x.name):=Lib.hid (by simp [kNames,hx])
   obtain⟨nm,ks,km,kt,kz,kw⟩:=x
   simp only at a0 a1 a2 a3 a4 a5 HX
   clear hc hx
   have KA:Kp wr (wr.alloc (.cells #[.string nm,.int .i64 ks,.int .i64 km,.int .i64 kt,.bool kz,.int .i64 kw] 176)):=(Kp.refl wr).alloc _
   by_cases hok:nm=m
   ·have HE2:Hid (R=(k:Int)):=Lib.hid (by rw [HR.out];exact idxS_hit (by rw [← hok];exact HX.out) hE.out)
    have he:(nm.toList == m.toList)=true:=(Lib.bytes_beq_iff nm m).2 hok
    clear hok
    go_wp2_with fail
    go_ret
    exact⟨ret_int HE2.out.symm,kr.trans KA⟩
   ·have HE2:=Lib.hid (not_more HX.out hok hE.out)
    have he:(nm.toList == m.toList)=false:=(Lib.bytes_beq_false_iff nm m).2 hok
    clear hok
    go_wp2_with fail
    go_roundw
    case rel=>exact⟨k+1,by omega,by go_num,HE2,kr.trans KA⟩
    case measure=>simp [intOf];omega
  ·obtain rfl:k=n:=by omega
   go_wp2_with fail
   go_ret
   refine⟨ret_int ?_,kr⟩
   rw [HR.out,idxS_miss (fun j hj=>hE.out j (by have:=HLn.out;omega))]
set_option maxRecDepth 100000 in
set_option maxHeartbeats 2000000 in
theorem rGood_no1 (At Ak:Option Addr) (nt nk ct ck:Nat) (l:List Ter) (m:List Knd) (a b c d e:Int) (w:World) (h:RulAt w At Ak nt nk l m) (h1:spB 1 6 nt=false) :
  Calls Tryz.prog 178 #[rv (.slice At nt ct) (.slice Ak nk ck) a b c d e] w fun e' w'=>e'=.returned (.bool false)∧Kp w w':=by
 have s0:cb7 (w.alloc (.cells #[.slice At nt ct,.slice Ak nk ck,.int .i64 a,.int .i64 b,.int .i64 c,.int .i64 d,.int .i64 e] 44)) (w.heap.size) (.slice At nt ct) (.slice Ak nk ck) (.int .i64 a) (.int .i64 b) (.int .i64 c) (.int .i64 d) (.int .i64 e) (Kp w (w.alloc (.cells #[.slice At nt ct,.slice Ak nk ck,.int .i64 a,.int .i64 b,.int .i64 c,.int .i64 d,.int .i64 e] 44))) :=
  ⟨by simp [go_sem],by simp [go_sem],by simp [go_sem],by simp [go_sem],by simp [go_sem],by simp [go_sem],by simp [go_sem],(Kp.refl w).alloc _⟩
 have HL:=Lib.hid h
 have hb1:=h.bt
 have hb2:=h.bk
 clear h
 go_enter Tryz.func178,Tryz.ntmps178
 go_wp2_with fail
 generalize w.alloc (.cells #[.slice At nt ct,.slice Ak nk ck,.int .i64 a,.int .i64 b,.int .i64 c,.int .i64 d,.int .i64 e] 44)=W0 at *
 refine(l1In_sp _ _ _ _).mono ?_
 rintro e1 w1 ⟨rfl,rfl⟩
 go_wp2_with fail
 go_ret
 exact⟨rfl,s0.2.2.2.2.2.2.2⟩
set_option maxRecDepth 100000 in
set_option maxHeartbeats 2000000 in
theorem rGood_no2 (At Ak:Option Addr) (nt nk ct ck:Nat) (l:List Ter) (m:List Knd) (a b c d e:Int) (w:World) (h:RulAt w At Ak nt nk l m) (h1:spB 1 6 nt=true) (h2:spB 1 4 nk=false) :
  Calls Tryz.prog 178 #[rv (.slice At nt ct) (.slice Ak nk ck) a b c d e] w fun e' w'=>e'=.returned (.bool false)∧Kp w w':=by
 have s0:cb7 (w.alloc (.cells #[.slice At nt ct,.slice Ak nk ck,.int .i64 a,.int .i64 b,.int .i64 c,.int .i64 d,.int .i64 e] 44)) (w.heap.size) (.slice At nt ct) (.slice Ak nk ck) (.int .i64 a) (.int .i64 b) (.int .i64 c) (.int .i64 d) (.int .i64 e) (Kp w (w.alloc (.cells #[.slice At nt ct,.slice Ak nk ck,.int .i64 a,.int .i64 b,.int .i64 c,.int .i64 d,.int .i64 e] 44))) :=
  ⟨by simp [go_sem],by simp [go_sem],by simp [go_sem],by simp [go_sem],by simp [go_sem],by simp [go_sem],by simp [go_sem],(Kp.refl w).alloc _⟩
 have HL:=Lib.hid h
 have hb1:=h.bt
 have hb2:=h.bk
 clear h
 go_enter Tryz.func178,Tryz.ntmps178
 go_wp2_with fail
 generalize w.alloc (.cells #[.slice At nt ct,.slice Ak nk ck,.int .i64 a,.int .i64 b,.int .i64 c,.int .i64 d,.int .i64 e] 44)=W0 at *
 refine(l1In_sp _ _ _ _).mono ?_
 rintro e1 w1 ⟨rfl,rfl⟩
 go_wp2_with fail
 refine(l1In_sp _ _ _ _).mono ?_
 rintro e2 w2 ⟨rfl,rfl⟩
 go_wp2_with fail
 go_ret
 exact⟨rfl,s0.2.2.2.2.2.2.2⟩
set_option maxRecDepth 100000 in
set_option maxHeartbeats 16000000 in
theorem rGood_yes (At Ak:Option Addr) (nt nk ct ck:Nat) (l:List Ter) (m:List Knd) (a b c d e:Int) (w:World) (h:RulAt w At Ak nt nk l m) (h1:spB 1 6 nt=true) (h2:spB 1 4 nk=true) :
  Calls Tryz.prog 178 #[rv (.slice At nt ct) (.slice Ak nk ck) a b c d e] w fun e' w'=>e'=.returned (.bool (allN nt (terF l nk) && (allN nk (kndF m) && limB a b c d e)))∧Kp w w':=by
 have s0:cb7 (w.alloc (.cells #[.slice At nt ct,.slice Ak nk ck,.int .i64 a,.int .i64 b,.int .i64 c,.int .i64 d,.int .i64 e] 44)) (w.heap.size) (.slice At nt ct) (.slice Ak nk ck) (.int .i64 a) (.int .i64 b) (.int .i64 c) (.int .i64 d) (.int .i64 e) (Kp w (w.alloc (.cells #[.slice At nt ct,.slice Ak nk ck,.int .i64 a,.int .i64 b,.int .i64 c,.int .i64 d,.int .i64 e] 44))) :=
  ⟨by simp [go_sem],by simp [go_sem],by simp [go_sem],by simp [go_sem],by simp [go_sem],by simp [go_sem],by simp [go_sem],(Kp.refl w).alloc _⟩
 have HL:=Lib.hid h
 have hb1:=h.bt
 have hb2:=h.bk
 clear h
 obtain⟨R,hR⟩:∃ R,R=allN nt (terF l nk):=⟨_,rfl⟩
 obtain⟨Q,hQ⟩:∃ Q,Q=allN nk (kndF m):=⟨_,rfl⟩
 rw [← hR,← hQ]
 have HR:=Lib.hid hR
 have HQ:=Lib.hid hQ
 have HNt:=Lib.hid HL.out.rt.1
 have HNk:=Lib.hid HL.out.rk.1
 have HAt:=Lib.hid HL.out.rt.2
 have HAk:=Lib.hid HL.out.rk.2
 clear hR hQ
 go_enter Tryz.func178,Tryz.ntmps178
 go_wp2_with fail
 generalize w.alloc (.cells #[.slice At nt ct,.slice Ak nk ck,.int .i64 a,.int .i64 b,.int .i64 c,.int .i64 d,.int .i64 e] 44)=W0 at *
 refine(l1In_sp _ _ _ _).mono ?_
 rintro e1 w1 ⟨rfl,rfl⟩
 go_wp2_with fail
 refine(l1In_sp _ _ _ _).mono ?_
 rintro e2 w2 ⟨rfl,rfl⟩
 go_wp2_with fail
 go_loopw [3,4,22] (fun _ _ i wr=>∃ k:Nat,k≤nt∧i=.int .i64 k∧Hid (∀ j,j<k→terF l nk j=true)∧Kp W0 wr) (fun _ _ i _=>nt - (intOf i).toNat)
 case atStart=>exact⟨0,by omega,rfl,Lib.hid fun j hj=>absurd hj (by omega),Kp.refl _⟩
 case round =>
  obtain⟨k,hk,rfl,hE,kr⟩:=hrel
  have K0:Kp w wr:=s0.2.2.2.2.2.2.2.trans kr
  by_cases hlt:k<nt
  ·have hlt':(k:Int)<nt:=by omega
   obtain⟨g,off,rfl,hc⟩:=HAt.out (by omega)
   obtain⟨x,hx⟩:∃ x,l[k]?=some x:=⟨l[k]'(by have:=HNt.out;omega),List.getElem?_eq_getElem _⟩
   obtain⟨Ac,cc,⟨a0,a1,a2,a3,a4⟩,hri⟩:=(hc k x hx).keep K0
   have HX:=Lib.hid hx
   obtain⟨hcb,hnb⟩:=HL.out.bc x (List.mem_of_getElem? hx)
   obtain⟨nm,cs,sh,hg,bl⟩:=x
   simp only at a0 a1 a2 a3 a4 hri hcb hnb
   have hcb2:=hcb
   have c0:=kr.cell s0.1
   have c1:=kr.cell s0.2.1
   have hz:=cell_lt c1
   generalize hnc:cs.length=nc at a1 hri hcb
   have HNC2:=Lib.hid hnc
   clear hc hx hnc
   have KA:Kp wr (wr.alloc (.cells #[.string nm,.slice Ac nc cc,.int .i64 sh,.int .i64 hg,.bool bl] 230)):=(Kp.refl wr).alloc _
   have HRI:=Lib.hid (hri.keep KA)
   have g1:(wr.alloc (.cells #[.string nm,.slice Ac nc cc,.int .i64 sh,.int .i64 hg,.bool bl] 230)).cell? ⟨wr.heap.size,1,none⟩=some (.slice Ac nc cc):=by simp [go_sem]
   have g2:(wr.alloc (.cells #[.string nm,.slice Ac nc cc,.int .i64 sh,.int .i64 hg,.bool bl] 230)).cell? ⟨wr.heap.size,2,none⟩=some (.int .i64 sh):=by simp [go_sem]
   have g3:(wr.alloc (.cells #[.string nm,.slice Ac nc cc,.int .i64 sh,.int .i64 hg,.bool bl] 230)).cell? ⟨wr.heap.size,3,none⟩=some (.int .i64 hg):=by simp [go_sem]
   have f1:=KA.cell c1
   clear hri
   cases p1:nameOk nm
   ·have HF:Hid (R=false):=Lib.hid (by rw [HR.out];exact allN_no (k:=k) (by have:=HNt.out;omega) (by rw [terF_at HX.out];simp only [terAt,p1];rfl))
    go_wp2_with fail
    refine(rName_any _ _ hnb).mono ?_;rintro e3 w3 ⟨rfl,rfl⟩
    go_wp2_with fail
    go_ret
    exact⟨ret_bool (by rw [HF.out];rfl),s0.2.2.2.2.2.2.2.trans (kr.trans KA)⟩
   ·skip
    cases p2:decide (idxS (tNames l) nm=(k:Int))
    ·have HF:Hid (R=false):=Lib.hid (by rw [HR.out];exact allN_no (k:=k) (by have:=HNt.out;omega) (by rw [terF_at HX.out];simp only [terAt,p1,p2];rfl))
     have q2:(idxS (tNames l) nm != (k:Int))=true:=by simpa using p2
     go_wp2_with fail
     refine(rName_any _ _ hnb).mono ?_;rintro e3 w3 ⟨rfl,rfl⟩
     go_wp2_with fail
     refine(rTerrain_any _ _ _ l _ _ (HL.out.keep (K0.trans KA)).rt hb1).mono ?_;rintro e4 w4 ⟨rfl,k4⟩
     have t1:=k4.cell g1;have t2:=k4.cell g2;have t3:=k4.cell g3;have d1:=k4.cell f1
     have HR4:=Lib.hid (HRI.out.keep k4)
     go_wp2_with fail
     go_ret
     exact⟨ret_bool (by rw [HF.out];rfl),s0.2.2.2.2.2.2.2.trans ((kr.trans KA).trans k4)⟩
    ·have q2:(idxS (tNames l) nm != (k:Int))=false:=by simpa using p2
     cases p3:decide (cs.length=nk)
     ·have HF:Hid (R=false):=Lib.hid (by rw [HR.out];exact allN_no (k:=k) (by have:=HNt.out;omega) (by rw [terF_at HX.out];simp only [terAt,p1,p2,p3];rfl))
      have q3:((nc:Int) != (nk:Int))=true:=by have:=HNC2.out;simp at p3;simp;omega
      have q3':(nc != nk)=true:=by have:=HNC2.out;simp at p3;simp;omega
      go_wp2_with fail
      refine(rName_any _ _ hnb).mono ?_;rintro e3 w3 ⟨rfl,rfl⟩
      go_wp2_with fail
      refine(rTerrain_any _ _ _ l _ _ (HL.out.keep (K0.trans KA)).rt hb1).mono ?_;rintro e4 w4 ⟨rfl,k4⟩
      have t1:=k4.cell g1;have t2:=k4.cell g2;have t3:=k4.cell g3;have d1:=k4.cell f1
      have HR4:=Lib.hid (HRI.out.keep k4)
      go_wp2_with fail
      go_ret
      exact⟨ret_bool (by rw [HF.out];rfl),s0.2.2.2.2.2.2.2.trans ((kr.trans KA).trans k4)⟩
     ·have q3:((nc:Int) != (nk:Int))=false:=by have:=HNC2.out;simp at p3;simp;omega
      have q3':(nc != nk)=false:=by have:=HNC2.out;simp at p3;simp;omega
      cases p4:cs.all (spB 0 9)
      ·have HF:Hid (R=false):=Lib.hid (by rw [HR.out];exact allN_no (k:=k) (by have:=HNt.out;omega) (by rw [terF_at HX.out];simp only [terAt,p1,p2,p3,p4];rfl))
       go_wp2_with fail
       refine(rName_any _ _ hnb).mono ?_;rintro e3 w3 ⟨rfl,rfl⟩
       go_wp2_with fail
       refine(rTerrain_any _ _ _ l _ _ (HL.out.keep (K0.trans KA)).rt hb1).mono ?_;rintro e4 w4 ⟨rfl,k4⟩
       have t1:=k4.cell g1;have t2:=k4.cell g2;have t3:=k4.cell g3;have d1:=k4.cell f1
       have HR4:=Lib.hid (HRI.out.keep k4)
       go_wp2_with fail
       refine(l1All_sp _ cs _ _ _ HR4.out hcb2).mono ?_;rintro e5 w5 ⟨rfl,rfl⟩
       rw [p4]
       go_wp2_with fail
       go_ret
       exact⟨ret_bool (by rw [HF.out];rfl),s0.2.2.2.2.2.2.2.trans ((kr.trans KA).trans k4)⟩
      ·skip
       cases p5:spB (-3) 3 sh
       ·have HF:Hid (R=false):=Lib.hid (by rw [HR.out];exact allN_no (k:=k) (by have:=HNt.out;omega) (by rw [terF_at HX.out];simp only [terAt,p1,p2,p3,p4,p5];rfl))
        go_wp2_with fail
        refine(rName_any _ _ hnb).mono ?_;rintro e3 w3 ⟨rfl,rfl⟩
        go_wp2_with fail
        refine(rTerrain_any _ _ _ l _ _ (HL.out.keep (K0.trans KA)).rt hb1).mono ?_;rintro e4 w4 ⟨rfl,k4⟩
        have t1:=k4.cell g1;have t2:=k4.cell g2;have t3:=k4.cell g3;have d1:=k4.cell f1
        have HR4:=Lib.hid (HRI.out.keep k4)
        go_wp2_with fail
        refine(l1All_sp _ cs _ _ _ HR4.out hcb2).mono ?_;rintro e5 w5 ⟨rfl,rfl⟩
        rw [p4]
        go_wp2_with fail
        refine(l1In_sp _ _ _ _).mono ?_;rintro e6 w6 ⟨rfl,rfl⟩
        go_wp2_with fail
        go_ret
        exact⟨ret_bool (by rw [HF.out];rfl),s0.2.2.2.2.2.2.2.trans ((kr.trans KA).trans k4)⟩
       ·skip
        cases p6:spB 0 3 hg
        ·have HF:Hid (R=false):=Lib.hid (by rw [HR.out];exact allN_no (k:=k) (by have:=HNt.out;omega) (by rw [terF_at HX.out];simp only [terAt,p1,p2,p3,p4,p5,p6];rfl))
         go_wp2_with fail
         refine(rName_any _ _ hnb).mono ?_;rintro e3 w3 ⟨rfl,rfl⟩
         go_wp2_with fail
         refine(rTerrain_any _ _ _ l _ _ (HL.out.keep (K0.trans KA)).rt hb1).mono ?_;rintro e4 w4 ⟨rfl,k4⟩
         have t1:=k4.cell g1;have t2:=k4.cell g2;have t3:=k4.cell g3;have d1:=k4.cell f1
         have HR4:=Lib.hid (HRI.out.keep k4)
         go_wp2_with fail
         refine(l1All_sp _ cs _ _ _ HR4.out hcb2).mono ?_;rintro e5 w5 ⟨rfl,rfl⟩
         rw [p4]
         go_wp2_with fail
         refine(l1In_sp _ _ _ _).mono ?_;rintro e6 w6 ⟨rfl,rfl⟩
         go_wp2_with fail
         refine(l1In_sp _ _ _ _).mono ?_;rintro e7 w7 ⟨rfl,rfl⟩
         go_wp2_with fail
         go_ret
         exact⟨ret_bool (by rw [HF.out];rfl),s0.2.2.2.2.2.2.2.trans ((kr.trans KA).trans k4)⟩
        ·have HE2:=Lib.hid (upto_more (f:=terF l nk) (by rw [terF_at HX.out];simp only [terAt,p1,p2,p3,p4,p5,p6];rfl) hE.out)
         go_wp2_with fail
         refine(rName_any _ _ hnb).mono ?_;rintro e3 w3 ⟨rfl,rfl⟩
         go_wp2_with fail
         refine(rTerrain_any _ _ _ l _ _ (HL.out.keep (K0.trans KA)).rt hb1).mono ?_;rintro e4 w4 ⟨rfl,k4⟩
         have t1:=k4.cell g1;have t2:=k4.cell g2;have t3:=k4.cell g3;have d1:=k4.cell f1
         have HR4:=Lib.hid (HRI.out.keep k4)
         go_wp2_with fail
         refine(l1All_sp _ cs _ _ _ HR4.out hcb2).mono ?_;rintro e5 w5 ⟨rfl,rfl⟩
         rw [p4]
         go_wp2_with fail
         refine(l1In_sp _ _ _ _).mono ?_;rintro e6 w6 ⟨rfl,rfl⟩
         go_wp2_with fail
         refine(l1In_sp _ _ _ _).mono ?_;rintro e7 w7 ⟨rfl,rfl⟩
         go_wp2_with fail
         go_roundw
         case rel=>exact⟨k+1,by omega,by go_num,HE2,(kr.trans KA).trans k4⟩
         case measure=>simp [intOf];omega
  ·obtain rfl:k=nt:=by omega
   have HR1:Hid (R=true):=Lib.hid (by rw [HR.out];exact allN_mk hE.out)
   have c1:=kr.cell s0.2.1
   go_wp2_with fail
   go_loopw [5,6,71] (fun _ _ i wx=>∃ j:Nat,j≤nk∧i=.int .i64 j∧Hid (∀ i,i<j→kndF m i=true)∧Kp W0 wx) (fun _ _ i _=>nk - (intOf i).toNat)
   case atStart=>exact⟨0,by omega,rfl,Lib.hid fun j hj=>absurd hj (by omega),kr⟩
   case round =>
    clear c1 K0 kr hE
    obtain⟨j,hj,rfl,hE,kr⟩:=hrel
    have K0:Kp w wr:=s0.2.2.2.2.2.2.2.trans kr
    by_cases hlt:j<nk
    ·have hlt':(j:Int)<nk:=by omega
     obtain⟨g,off,rfl,hc⟩:=HAk.out (by omega)
     obtain⟨x,hx⟩:∃ x,m[j]?=some x:=⟨m[j]'(by have:=HNk.out;omega),List.getElem?_eq_getElem _⟩
     obtain⟨a0,a1,a2,a3,a4,a5⟩:=(hc j x hx).keep K0
     have HX:=Lib.hid hx
     have hnb:=HL.out.bn x (List.mem_of_getElem? hx)
     obtain⟨nm,ks,km,kt,kz,kw⟩:=x
     simp only at a0 a1 a2 a3 a4 a5 hnb
     have c1:=kr.cell s0.2.1
     have hz:=cell_lt c1
     clear hc hx
     have KA:Kp wr (wr.alloc (.cells #[.string nm,.int .i64 ks,.int .i64 km,.int .i64 kt,.bool kz,.int .i64 kw] 176)):=(Kp.refl wr).alloc _
     have g1:(wr.alloc (.cells #[.string nm,.int .i64 ks,.int .i64 km,.int .i64 kt,.bool kz,.int .i64 kw] 176)).cell? ⟨wr.heap.size,1,none⟩=some (.int .i64 ks):=by simp [go_sem]
     have g2:(wr.alloc (.cells #[.string nm,.int .i64 ks,.int .i64 km,.int .i64 kt,.bool kz,.int .i64 kw] 176)).cell? ⟨wr.heap.size,2,none⟩=some (.int .i64 km):=by simp [go_sem]
     have g3:(wr.alloc (.cells #[.string nm,.int .i64 ks,.int .i64 km,.int .i64 kt,.bool kz,.int .i64 kw] 176)).cell? ⟨wr.heap.size,3,none⟩=some (.int .i64 kt):=by simp [go_sem]
     have g5:(wr.alloc (.cells #[.string nm,.int .i64 ks,.int .i64 km,.int .i64 kt,.bool kz,.int .i64 kw] 176)).cell? ⟨wr.heap.size,5,none⟩=some (.int .i64 kw):=by simp [go_sem]
     cases p1:nameOk nm
     ·have HF:Hid (Q=false):=Lib.hid (by rw [HQ.out];exact allN_no (k:=j) (by have:=HNk.out;omega) (by rw [kndF_at HX.out];simp only [kndAt,p1];rfl))
      go_wp2_with fail
      refine(rName_any _ _ hnb).mono ?_;rintro e3 w3 ⟨rfl,rfl⟩
      go_wp2_with fail
      go_ret
      exact⟨ret_bool (by rw [HR1.out,HF.out];rfl),s0.2.2.2.2.2.2.2.trans (kr.trans KA)⟩
     ·skip
      cases p2:decide (idxS (kNames m) nm=(j:Int))
      ·have HF:Hid (Q=false):=Lib.hid (by rw [HQ.out];exact allN_no (k:=j) (by have:=HNk.out;omega) (by rw [kndF_at HX.out];simp only [kndAt,p1,p2];rfl))
       have q2:(idxS (kNames m) nm != (j:Int))=true:=by simpa using p2
       go_wp2_with fail
       refine(rName_any _ _ hnb).mono ?_;rintro e3 w3 ⟨rfl,rfl⟩
       go_wp2_with fail
       refine(rKind_any _ _ _ m _ _ (HL.out.keep (K0.trans KA)).rk hb2).mono ?_;rintro e4 w4 ⟨rfl,k4⟩
       have t1:=k4.cell g1;have t2:=k4.cell g2;have t3:=k4.cell g3;have t5:=k4.cell g5
       go_wp2_with fail
       go_ret
       exact⟨ret_bool (by rw [HR1.out,HF.out];rfl),s0.2.2.2.2.2.2.2.trans ((kr.trans KA).trans k4)⟩
      ·have q2:(idxS (kNames m) nm != (j:Int))=false:=by simpa using p2
       cases p3:spB 1 9 ks
       ·have HF:Hid (Q=false):=Lib.hid (by rw [HQ.out];exact allN_no (k:=j) (by have:=HNk.out;omega) (by rw [kndF_at HX.out];simp only [kndAt,p1,p2,p3];rfl))
        go_wp2_with fail
        refine(rName_any _ _ hnb).mono ?_;rintro e3 w3 ⟨rfl,rfl⟩
        go_wp2_with fail
        refine(rKind_any _ _ _ m _ _ (HL.out.keep (K0.trans KA)).rk hb2).mono ?_;rintro e4 w4 ⟨rfl,k4⟩
        have t1:=k4.cell g1;have t2:=k4.cell g2;have t3:=k4.cell g3;have t5:=k4.cell g5
        go_wp2_with fail
        refine(l1In_sp _ _ _ _).mono ?_;rintro e6 w6 ⟨rfl,rfl⟩
        go_wp2_with fail
        go_ret
        exact⟨ret_bool (by rw [HR1.out,HF.out];rfl),s0.2.2.2.2.2.2.2.trans ((kr.trans KA).trans k4)⟩
       ·skip
        cases p4:spB 0 9 km
        ·have HF:Hid (Q=false):=Lib.hid (by rw [HQ.out];exact allN_no (k:=j) (by have:=HNk.out;omega) (by rw [kndF_at HX.out];simp only [kndAt,p1,p2,p3,p4];rfl))
         go_wp2_with fail
         refine(rName_any _ _ hnb).mono ?_;rintro e3 w3 ⟨rfl,rfl⟩
         go_wp2_with fail
         refine(rKind_any _ _ _ m _ _ (HL.out.keep (K0.trans KA)).rk hb2).mono ?_;rintro e4 w4 ⟨rfl,k4⟩
         have t1:=k4.cell g1;have t2:=k4.cell g2;have t3:=k4.cell g3;have t5:=k4.cell g5
         go_wp2_with fail
         refine(l1In_sp _ _ _ _).mono ?_;rintro e6 w6 ⟨rfl,rfl⟩
         go_wp2_with fail
         refine(l1In_sp _ _ _ _).mono ?_;rintro e7 w7 ⟨rfl,rfl⟩
         go_wp2_with fail
         go_ret
         exact⟨ret_bool (by rw [HR1.out,HF.out];rfl),s0.2.2.2.2.2.2.2.trans ((kr.trans KA).trans k4)⟩
        ·skip
         cases p5:spB 1 4 kt
         ·have HF:Hid (Q=false):=Lib.hid (by rw [HQ.out];exact allN_no (k:=j) (by have:=HNk.out;omega) (by rw [kndF_at HX.out];simp only [kndAt,p1,p2,p3,p4,p5];rfl))
          go_wp2_with fail
          refine(rName_any _ _ hnb).mono ?_;rintro e3 w3 ⟨rfl,rfl⟩
          go_wp2_with fail
          refine(rKind_any _ _ _ m _ _ (HL.out.keep (K0.trans KA)).rk hb2).mono ?_;rintro e4 w4 ⟨rfl,k4⟩
          have t1:=k4.cell g1;have t2:=k4.cell g2;have t3:=k4.cell g3;have t5:=k4.cell g5
          go_wp2_with fail
          refine(l1In_sp _ _ _ _).mono ?_;rintro e6 w6 ⟨rfl,rfl⟩
          go_wp2_with fail
          refine(l1In_sp _ _ _ _).mono ?_;rintro e7 w7 ⟨rfl,rfl⟩
          go_wp2_with fail
          refine(l1In_sp _ _ _ _).mono ?_;rintro e8 w8 ⟨rfl,rfl⟩
          go_wp2_with fail
          go_ret
          exact⟨ret_bool (by rw [HR1.out,HF.out];rfl),s0.2.2.2.2.2.2.2.trans ((kr.trans KA).trans k4)⟩
         ·skip
          cases p6:spB 0 4 kw
          ·have HF:Hid (Q=false):=Lib.hid (by rw [HQ.out];exact allN_no (k:=j) (by have:=HNk.out;omega) (by rw [kndF_at HX.out];simp only [kndAt,p1,p2,p3,p4,p5,p6];rfl))
           go_wp2_with fail
           refine(rName_any _ _ hnb).mono ?_;rintro e3 w3 ⟨rfl,rfl⟩
           go_wp2_with fail
           refine(rKind_any _ _ _ m _ _ (HL.out.keep (K0.trans KA)).rk hb2).mono ?_;rintro e4 w4 ⟨rfl,k4⟩
           have t1:=k4.cell g1;have t2:=k4.cell g2;have t3:=k4.cell g3;have t5:=k4.cell g5
           go_wp2_with fail
           refine(l1In_sp _ _ _ _).mono ?_;rintro e6 w6 ⟨rfl,rfl⟩
           go_wp2_with fail
           refine(l1In_sp _ _ _ _).mono ?_;rintro e7 w7 ⟨rfl,rfl⟩
           go_wp2_with fail
           refine(l1In_sp _ _ _ _).mono ?_;rintro e8 w8 ⟨rfl,rfl⟩
           go_wp2_with fail
           refine(l1In_sp _ _ _ _).mono ?_;rintro e9 w9 ⟨rfl,rfl⟩
           go_wp2_with fail
           go_ret
           exact⟨ret_bool (by rw [HR1.out,HF.out];rfl),s0.2.2.2.2.2.2.2.trans ((kr.trans KA).trans k4)⟩
          ·have HE2:=Lib.hid (upto_more (f:=kndF m) (by rw [kndF_at HX.out];simp only [kndAt,p1,p2,p3,p4,p5,p6];rfl) hE.out)
           go_wp2_with fail
           refine(rName_any _ _ hnb).mono ?_;rintro e3 w3 ⟨rfl,rfl⟩
           go_wp2_with fail
           refine(rKind_any _ _ _ m _ _ (HL.out.keep (K0.trans KA)).rk hb2).mono ?_;rintro e4 w4 ⟨rfl,k4⟩
           have t1:=k4.cell g1;have t2:=k4.cell g2;have t3:=k4.cell g3;have t5:=k4.cell g5
           go_wp2_with fail
           refine(l1In_sp _ _ _ _).mono ?_;rintro e6 w6 ⟨rfl,rfl⟩
           go_wp2_with fail
           refine(l1In_sp _ _ _ _).mono ?_;rintro e7 w7 ⟨rfl,rfl⟩
           go_wp2_with fail
           refine(l1In_sp _ _ _ _).mono ?_;rintro e8 w8 ⟨rfl,rfl⟩
           go_wp2_with fail
           refine(l1In_sp _ _ _ _).mono ?_;rintro e9 w9 ⟨rfl,rfl⟩
           go_wp2_with fail
           go_roundw
           case rel=>exact⟨j+1,by omega,by go_num,HE2,(kr.trans KA).trans k4⟩
           case measure=>simp [intOf];omega
    ·obtain rfl:j=nk:=by omega
     have HQ1:Hid (Q=true):=Lib.hid (by rw [HQ.out];exact allN_mk hE.out)
     have c2:=kr.cell s0.2.2.1
     have c3:=kr.cell s0.2.2.2.1
     have c4:=kr.cell s0.2.2.2.2.1
     have c5:=kr.cell s0.2.2.2.2.2.1
     have c6:=kr.cell s0.2.2.2.2.2.2.1
     cases h5:spB 1 4 a
     ·go_wp2_with fail
      refine(l1In_sp _ _ _ _).mono ?_;rintro e3 w3 ⟨rfl,rfl⟩
      go_wp2_with fail
      go_ret
      exact⟨ret_bool (by rw [HR1.out,HQ1.out];simp only [limB,h5];rfl),K0⟩
     ·skip
      cases h6:spB 0 9 b
      ·go_wp2_with fail
       refine(l1In_sp _ _ _ _).mono ?_;rintro e3 w3 ⟨rfl,rfl⟩
       go_wp2_with fail
       refine(l1In_sp _ _ _ _).mono ?_;rintro e4 w4 ⟨rfl,rfl⟩
       go_wp2_with fail
       go_ret
       exact⟨ret_bool (by rw [HR1.out,HQ1.out];simp only [limB,h5,h6];rfl),K0⟩
      ·skip
       cases h7:spB 1 9 c
       ·go_wp2_with fail
        refine(l1In_sp _ _ _ _).mono ?_;rintro e3 w3 ⟨rfl,rfl⟩
        go_wp2_with fail
        refine(l1In_sp _ _ _ _).mono ?_;rintro e4 w4 ⟨rfl,rfl⟩
        go_wp2_with fail
        refine(l1In_sp _ _ _ _).mono ?_;rintro e5 w5 ⟨rfl,rfl⟩
        go_wp2_with fail
        go_ret
        exact⟨ret_bool (by rw [HR1.out,HQ1.out];simp only [limB,h5,h6,h7];rfl),K0⟩
       ·skip
        cases h8:spB 0 20 d
        ·go_wp2_with fail
         refine(l1In_sp _ _ _ _).mono ?_;rintro e3 w3 ⟨rfl,rfl⟩
         go_wp2_with fail
         refine(l1In_sp _ _ _ _).mono ?_;rintro e4 w4 ⟨rfl,rfl⟩
         go_wp2_with fail
         refine(l1In_sp _ _ _ _).mono ?_;rintro e5 w5 ⟨rfl,rfl⟩
         go_wp2_with fail
         refine(l1In_sp _ _ _ _).mono ?_;rintro e6 w6 ⟨rfl,rfl⟩
         go_wp2_with fail
         go_ret
         exact⟨ret_bool (by rw [HR1.out,HQ1.out];simp only [limB,h5,h6,h7,h8];rfl),K0⟩
        ·go_wp2_with fail
         refine(l1In_sp _ _ _ _).mono ?_;rintro e3 w3 ⟨rfl,rfl⟩
         go_wp2_with fail
         refine(l1In_sp _ _ _ _).mono ?_;rintro e4 w4 ⟨rfl,rfl⟩
         go_wp2_with fail
         refine(l1In_sp _ _ _ _).mono ?_;rintro e5 w5 ⟨rfl,rfl⟩
         go_wp2_with fail
         refine(l1In_sp _ _ _ _).mono ?_;rintro e6 w6 ⟨rfl,rfl⟩
         go_wp2_with fail
         refine(l1In_sp _ _ _ _).mono ?_;rintro e7 w7 ⟨rfl,rfl⟩
         go_wp2_with fail
         go_ret
         exact⟨ret_bool (by rw [HR1.out,HQ1.out];simp only [limB,h5,h6,h7,h8];rfl),K0⟩
theorem rGood_any (At Ak:Option Addr) (nt nk ct ck:Nat) (l:List Ter) (m:List Knd) (a b c d e:Int) (w:World) (h:RulAt w At Ak nt nk l m) :
  Calls Tryz.prog 178 #[rv (.slice At nt ct) (.slice Ak nk ck) a b c d e] w fun e' w'=>e'=.returned (.bool (rulOk ⟨l,m,a,b,c,d,e⟩))∧Kp w w':=by
 rw [← rulS_eq]
 unfold rulS
 simp only [h.rt.1,h.rk.1]
 cases h1:spB 1 6 nt
 ·exact rGood_no1 At Ak nt nk ct ck l m a b c d e w h h1
 ·cases h2:spB 1 4 nk
  ·exact rGood_no2 At Ak nt nk ct ck l m a b c d e w h h1 h2
  ·exact rGood_yes At Ak nt nk ct ck l m a b c d e w h h1 h2
end Go.Proofs.YtacgknllagdkoaaGreatDoor
/-
 The program's functions on boards: missing terrains, the test of a board, the cost to enter a hex. Nothing that was there is changed. The named variables hold what the program's text lays.
-/
namespace Go.Proofs.YtacgknllagdkoaaGreatDoor
open Go.RowKit
abbrev bv (t k:Value) (a b c d e W H:Int) (x r y:Value):Value:=.agg #[t,k,.int .i64 a,.int .i64 b,.int .i64 c,.int .i64 d,.int .i64 e,.int .i64 W,.int .i64 H,x,r,y]
/-- What a board is in memory. -/
structure BrdAt (w:World) (At Ak:Option Addr) (nt nk:Nat) (l:List Ter) (m:List Knd) (x r y:Value) (lt lr ld:List Int):Prop where
 R:RulAt w At Ak nt nk l m
 L:Lists w x r y lt lr ld
theorem BrdAt.keep {w w':World} {At Ak:Option Addr} {nt nk:Nat} {l:List Ter} {m:List Knd} {x r y:Value} {lt lr ld:List Int} (h:BrdAt w At Ak nt nk l m x r y lt lr ld) (k:Kp w w'):BrdAt w' At Ak nt nk l m x r y lt lr ld :=
 ⟨h.R.keep k,h.L.keep k⟩
theorem misL_none {lt:List Int} {nt:Nat}:filN (misB lt nt) nt=[]:=by
 rw [List.eq_nil_iff_forall_not_mem]
 intro z hz
 obtain⟨j,hj,_,hm⟩:=(filN_mem _ _ _).1 hz
 simp only [misB,Bool.and_eq_true,decide_eq_true_iff] at hm
 omega
theorem rulOk_nt {l:List Ter} {m:List Knd} {a b c d e:Int} (h:rulOk ⟨l,m,a,b,c,d,e⟩=true):(1≤l.length∧l.length≤6)∧(1≤m.length∧m.length≤4):=by
 simp only [rulOk,spB,Bool.and_eq_true,decide_eq_true_iff] at h
 omega
set_option maxRecDepth 100000 in
set_option maxHeartbeats 4000000 in
theorem missing_any (At Ak:Option Addr) (nt nk ct ck:Nat) (l:List Ter) (m:List Knd) (a b c d e W H:Int) (x r y:Value) (lt lr ld:List Int) (w:World) (hs:Spans w) (ht:Tab w) (hB:BrdAt w At Ak nt nk l m x r y lt lr ld) :
  Calls Tryz.prog 183 #[rv (.slice At nt ct) (.slice Ak nk ck) a b c d e,mp W H x r y] w (ListPostI (rulOk ⟨l,m,a,b,c,d,e⟩ && mapOk W H lt lr ld) (misL lt nt) w):=by
 have KA:Kp w ((w.alloc (.cells #[.slice At nt ct,.slice Ak nk ck,.int .i64 a,.int .i64 b,.int .i64 c,.int .i64 d,.int .i64 e] 44)).alloc (.cells #[.int .i64 W,.int .i64 H,x,r,y] 45)):=((Kp.refl w).alloc _).alloc _
 have HB:=Lib.hid hB
 have C1:=Lib.hid (isRules_any At Ak nt nk ct ck l m a b c d e _ (hs.keep KA) (hB.R.keep KA))
 have s0:ce5 ((w.alloc (.cells #[.slice At nt ct,.slice Ak nk ck,.int .i64 a,.int .i64 b,.int .i64 c,.int .i64 d,.int .i64 e] 44)).alloc (.cells #[.int .i64 W,.int .i64 H,x,r,y] 45)) (w.heap.size+1) (.int .i64 W) (.int .i64 H) (x) (r) (y):=⟨by simp [go_sem],by simp [go_sem],by simp [go_sem],by simp [go_sem],by simp [go_sem]⟩
 have r0:((w.alloc (.cells #[.slice At nt ct,.slice Ak nk ck,.int .i64 a,.int .i64 b,.int .i64 c,.int .i64 d,.int .i64 e] 44)).alloc (.cells #[.int .i64 W,.int .i64 H,x,r,y] 45)).cell? ⟨w.heap.size,0,none⟩=some (.slice At nt ct):=by simp [go_sem]
 cases hr:rulOk ⟨l,m,a,b,c,d,e⟩
 ·rw [hr] at C1
  clear hs ht hB hr
  go_enter Tryz.func183,Tryz.ntmps183
  go_wp2_with fail
  refine C1.out.mono ?_
  rintro e1 w1 ⟨rfl,k1⟩
  go_wp2_with fail
  go_ret2
  exact ListPostI.no (KA.trans k1)
 ·rw [hr] at C1
  have hn6:nt≤6:=by have:=(rulOk_nt hr).1.2;have:=hB.R.rt.1;omega
  have HT:=Lib.hid ht
  have CM:Hid (∀ w,Tab w→Lists w x r y lt lr ld→Calls Tryz.prog 214 #[mp W H x r y] w fun e w'=>e=.returned (.bool (mapOk W H lt lr ld))∧Kp w w'):=Lib.hid fun w k h=>isMap_any W H x r y lt lr ld w k h
  cases hm:mapOk W H lt lr ld
  ·rw [hm] at CM
   clear hs ht hB hr hm
   go_enter Tryz.func183,Tryz.ntmps183
   go_wp2_with fail
   refine C1.out.mono ?_
   rintro e1 w1 ⟨rfl,k1⟩
   have s1:=keepc5 k1 s0
   have K1:Kp w w1:=KA.trans k1
   clear s0 k1
   go_wp2_with fail
   refine(CM.out _ (HT.out.keep K1) (HB.out.keep K1).L).mono ?_
   rintro e2 w2 ⟨rfl,k2⟩
   go_wp2_with fail
   go_ret2
   exact ListPostI.no (K1.trans k2)
  ·rw [hm] at CM
   clear hs ht hB hr hm
   obtain⟨j0,hj0,hz0,hs0,hb0⟩:=info_parts infoInt
   go_enter Tryz.func183,Tryz.ntmps183
   go_wp2_with fail
   refine C1.out.mono ?_
   rintro e1 w1 ⟨rfl,k1⟩
   have s1:=keepc5 k1 s0
   have r1:=k1.cell r0
   have K1:Kp w w1:=KA.trans k1
   clear s0 k1 r0
   go_wp2_with fail
   refine(CM.out _ (HT.out.keep K1) (HB.out.keep K1).L).mono ?_
   rintro e2 w2 ⟨rfl,k2⟩
   have x2:=k2.cell s1.2.2.1
   have r2:=k2.cell r1
   have K2:Kp w w2:=K1.trans k2
   have hz2:=cell_lt x2
   clear s1 k2 K1 r1
   go_wp2_with fail
   go_loopw [6,7] (fun v s7 wx=>∃ k:Nat,nt≤k∧k≤6∧s7=.int .i64 k∧OwnI wx (w.heap.size+2) v (filN (misB lt nt) k)∧wx.cell? ⟨w.heap.size+1,2,none⟩=some x∧Kp w wx) (fun _ s7 _=>6 - (intOf s7).toNat)
   case atStart=>exact⟨nt,by omega,hn6,rfl,by rw [misL_none];exact OwnI.nil _ _,x2,K2⟩
   case round =>
    clear x2 K2 hz2
    obtain⟨k,hnk,hk6,rfl,hoR,xr,kr⟩:=hrel
    by_cases hlt:k<6
    ·have hlt':(k:Int)<6:=by omega
     have HO:=Lib.hid hoR
     have bz:=cell_lt xr
     have HX:=Lib.hid (HB.out.keep kr).L
     clear hoR
     cases hh:hasB lt (k:Int)
     ·have HS:Hid (filN (misB lt nt) (k+1)=filN (misB lt nt) k):=Lib.hid (filN_no (by unfold misB;rw [hh,Bool.and_false]))
      go_wp2_with fail
      refine(contains_any _ lt _ _ HX.out.rt HX.out.bt).mono ?_
      rintro e3 w3 ⟨rfl,rfl⟩
      rw [hh]
      go_wp2_with fail
      go_roundw
      case rel=>exact⟨k+1,by omega,by omega,by go_num,by rw [HS.out];exact HO.out,xr,kr⟩
      case measure=>simp [intOf];omega
     ·have HS:Hid (filN (misB lt nt) (k+1)=filN (misB lt nt) k++[(k:Int)]):=Lib.hid (filN_yes (by unfold misB;rw [hh,Bool.and_true];exact decide_eq_true hnk))
      have hln:=Lib.hid (filN_len (misB lt nt) k)
      have n1:=Lib.hid (HO.out.not (g:=w.heap.size+1) (by omega))
      go_wp2_with fail
      refine(contains_any _ lt _ _ HX.out.rt HX.out.bt).mono ?_
      rintro e3 w3 ⟨rfl,rfl⟩
      rw [hh]
      go_wp2_with (at_builtin;refine wpList_append_own_at _ rfl (.tmp 27) (.tmp 29) 26 rfl (w.heap.size+2) 3 j0 (.int .i64 0) 1 8 Tryz.underlying26 hj0 hz0 hs0 hb0 rfl (by decide) _ (filN (misB lt nt) k).length (cellsI (filN (misB lt nt) k)) rfl (World.ownsRow.alloc HO.out _) ⟨wr.heap.size,0,none⟩ 1 1 [.int .i64 k] rfl rfl (one_cell _ _ _) (by simp [Value.oneCell']) (by have:=hln.out;simp only [maxLen];omega) (by have:=hln.out;omega) (by simp;omega) ?_;intro v' w3 hown2 hgrow2 hnil2 hat2;clear hnil2 hat2;have x5:=hgrow2.cell (((Kp.refl wr).alloc (.cells #[.int .i64 (k:Int)] 3)).cell xr) (fun e=>n1.out e.symm);have K5:Kp w w3:=(kr.alloc _).grown hgrow2 (fun k e=>by have:=(World.ownsRow.lt HO.out k e).1;omega);have O3:=Lib.hid (OwnI.snoc (x:=k) hown2);clear hown2 hgrow2)
      go_roundw
      case rel=>exact⟨k+1,by omega,by omega,by go_num,by rw [HS.out];exact O3.out,x5,K5⟩
      case measure=>simp [intOf];omega
    ·obtain rfl:k=6:=by omega
     go_wp2_with fail
     go_ret2
     exact⟨_,rfl,hoR.base (by omega),kr⟩
theorem keepb12 {w w1:World} {p0 p1 p2 p3 p4 p5 p6 p7 p8 p9 p10 p11:Addr} {v0 v1 v2 v3 v4 v5 v6 v7 v8 v9 v10 v11:Value} (k:Kp w w1) (h:w.cell? p0=some v0∧w.cell? p1=some v1∧w.cell? p2=some v2∧w.cell? p3=some v3∧w.cell? p4=some v4∧w.cell? p5=some v5∧w.cell? p6=some v6∧w.cell? p7=some v7∧w.cell? p8=some v8∧w.cell? p9=some v9∧w.cell? p10=some v10∧w.cell? p11=some v11):w1.cell? p0=some v0∧w1.cell? p1=some v1∧w1.cell? p2=some v2∧w1.cell? p3=some v3∧w1.cell? p4=some v4∧w1.cell? p5=some v5∧w1.cell? p6=some v6∧w1.cell? p7=some v7∧w1.cell? p8=some v8∧w1.cell? p9=some v9∧w1.cell? p10=some v10∧w1.cell? p11=some v11 :=
 ⟨k.cell h.1,k.cell h.2.1,k.cell h.2.2.1,k.cell h.2.2.2.1,k.cell h.2.2.2.2.1,k.cell h.2.2.2.2.2.1,k.cell h.2.2.2.2.2.2.1,k.cell h.2.2.2.2.2.2.2.1,k.cell h.2.2.2.2.2.2.2.2.1,k.cell h.2.2.2.2.2.2.2.2.2.1,k.cell h.2.2.2.2.2.2.2.2.2.2.1,k.cell h.2.2.2.2.2.2.2.2.2.2.2⟩
theorem brdOk_eq (l:List Ter) (m:List Knd) (a b c d e W H:Int) (lt lr ld:List Int) (nt:Nat) (hl:l.length=nt):(((rulOk ⟨l,m,a,b,c,d,e⟩ && mapOk W H lt lr ld) && decide (misL lt nt=[])))=brdOk ⟨l,m,a,b,c,d,e⟩ W H lt lr ld:=by
 unfold brdOk
 cases hm:mapOk W H lt lr ld
 ·simp
 ·rw [misL_nil (mapOk_terr hm),hl]
set_option maxRecDepth 100000 in
set_option maxHeartbeats 4000000 in
theorem isBoard_any (At Ak:Option Addr) (nt nk ct ck:Nat) (l:List Ter) (m:List Knd) (a b c d e W H:Int) (x r y:Value) (lt lr ld:List Int) (w:World) (hs:Spans w) (ht:Tab w) (hB:BrdAt w At Ak nt nk l m x r y lt lr ld) :
  Calls Tryz.prog 134 #[bv (.slice At nt ct) (.slice Ak nk ck) a b c d e W H x r y] w fun e' w'=>e'=.returned (.bool (brdOk ⟨l,m,a,b,c,d,e⟩ W H lt lr ld))∧Kp w w':=by
 have KA:Kp w (w.alloc (.cells #[.slice At nt ct,.slice Ak nk ck,.int .i64 a,.int .i64 b,.int .i64 c,.int .i64 d,.int .i64 e,.int .i64 W,.int .i64 H,x,r,y] 47)):=(Kp.refl w).alloc _
 have C1:=Lib.hid (missing_any At Ak nt nk ct ck l m a b c d e W H x r y lt lr ld _ (hs.keep KA) (ht.keep KA) (hB.keep KA))
 have HE:=Lib.hid (brdOk_eq l m a b c d e W H lt lr ld nt hB.R.rt.1)
 have hln:(misL lt nt).length≤6:=filN_len _ _
 generalize (rulOk ⟨l,m,a,b,c,d,e⟩ && mapOk W H lt lr ld)=B at C1 HE
 generalize misL lt nt=L at C1 HE hln
 generalize brdOk ⟨l,m,a,b,c,d,e⟩ W H lt lr ld=R at HE
 unfold ListPostI at C1
 clear hs ht hB
 cases B
 ·go_enter Tryz.func134,Tryz.ntmps134
  go_wp2_with fail
  refine C1.out.mono ?_
  rintro e1 w1 ⟨v,rfl,o1,k1⟩
  obtain⟨A1,c1,rfl⟩:=o1.slice
  go_wp2_with fail
  go_ret
  exact⟨ret_bool HE.out,KA.trans k1⟩
 ·have HL:Hid ((if true=true then L else []).length=L.length):=Lib.hid (by simp)
  go_enter Tryz.func134,Tryz.ntmps134
  go_wp2_with fail
  refine C1.out.mono ?_
  rintro e1 w1 ⟨v,rfl,o1,k1⟩
  obtain⟨A1,c1,rfl⟩:=o1.slice
  rw [HL.out]
  go_wp2_with fail
  go_ret
  refine⟨ret_bool ?_,KA.trans k1⟩
  rw [← HE.out,Bool.true_and]
  cases L
  ·rfl
  ·simp
   omega
/-- A hex of a valid board: its terrain and what that costs a kind. -/
theorem brd_hex {l:List Ter} {m:List Knd} {a b c d e W H:Int} {lt lr ld:List Int} {k i:Nat} (h:brdOk ⟨l,m,a,b,c,d,e⟩ W H lt lr ld=true) (hk:k<m.length) (hi:i<lt.length) :
  ∃ (T:Nat) (t:Ter) (z:Int),lt[i]?=some (T:Int)∧T<l.length∧l[T]?=some t∧t.cost.length=m.length∧t.cost[k]?=some z∧costB l lt k i=z∧0≤z∧z≤9:=by
 simp only [brdOk,rulOk,Bool.and_eq_true] at h
 obtain⟨⟨⟨⟨hl1,_⟩,h1,_⟩,_⟩,h2⟩:=h
 have hx:lt[i]?=some (lt[i]'hi):=List.getElem?_eq_getElem _
 have h3:=List.all_eq_true.1 h2 _ (List.getElem_mem hi)
 simp only [spB,Bool.and_eq_true,decide_eq_true_iff] at h3
 obtain⟨T,hT⟩:∃ T:Nat,lt[i]'hi=T:=⟨(lt[i]'hi).toNat,by omega⟩
 rw [hT] at hx h3
 have hTl:T<l.length:=by omega
 have ht:l[T]?=some (l[T]'hTl):=List.getElem?_eq_getElem _
 have h4:=List.all_eq_true.1 h1 _ (List.getElem_mem hTl)
 simp only [numT,Bool.and_eq_true,decide_eq_true_iff] at h4
 have hkc:k<(l[T]'hTl).cost.length:=by omega
 have hz:(l[T]'hTl).cost[k]?=some ((l[T]'hTl).cost[k]'hkc):=List.getElem?_eq_getElem _
 have h5:=List.all_eq_true.1 h4.2.1 _ (List.getElem_mem hkc)
 simp only [spB,Bool.and_eq_true,decide_eq_true_iff] at h5
 refine⟨T,_,_,hx,hTl,ht,h4.1,hz,?_,h5.1,h5.2⟩
 unfold costB costT
 rw [hx]
 simp [ht,hkc]
theorem brdOk_rul {r:Rul} {W H:Int} {lt lr ld:List Int} (h:brdOk r W H lt lr ld=true):rulOk r=true:=by
 simp only [brdOk,Bool.and_eq_true] at h
 exact h.1.1
/-- The terrain of a hex. -/
def terN (l:List Ter) (lt:List Int) (i:Nat):Option Ter:=l[(lt[i]?.getD 0).toNat]?
set_option maxRecDepth 100000 in
set_option maxHeartbeats 4000000 in
theorem terrainAt_full (At Ak:Option Addr) (nt nk ct ck:Nat) (l:List Ter) (m:List Knd) (a b c d e W H:Int) (x r y:Value) (lt lr ld:List Int) (k i:Nat) (w:World) (hB:BrdAt w At Ak nt nk l m x r y lt lr ld) (hok:brdOk ⟨l,m,a,b,c,d,e⟩ W H lt lr ld=true) (hk:k<m.length) (hi:i<lt.length) :
  Calls Tryz.prog 265 #[bv (.slice At nt ct) (.slice Ak nk ck) a b c d e W H x r y,.int .i64 (i:Int)] w fun e' w'=>∃ (nm:ByteArray) (g o n c:Nat) (s:Int) (t:Ter),terN l lt i=some t∧e'=.returned (tv nm (some ⟨g,o,none⟩) n c s t.height t.blocks)∧k<n∧w'.cell? ⟨g,o+k,none⟩=some (.int .i64 (costB l lt k i))∧Kp w w':=by
 obtain⟨T,t,z,h1,h2,h3,h4,h5,h6,_,_⟩:=brd_hex hok hk hi
 rw [h6]
 obtain⟨Bx,bx,rfl,hrt⟩:=hB.L.rt
 obtain⟨gx,ox,rfl,hcx⟩:=hrt (by omega)
 have q1:=hcx i _ h1
 obtain⟨hl,hrT⟩:=hB.R.rt
 obtain⟨gt,ot,rfl,hct⟩:=hrT (by omega)
 obtain⟨Ac,cc,⟨u0,q2,u2,u3,u4⟩,hrc⟩:=hct T t h3
 obtain⟨Ac',cc',ec,hrc'⟩:=hrc
 simp only [Value.slice.injEq] at ec
 obtain⟨rfl,_,rfl⟩:=ec
 obtain⟨gc,oc,rfl,hcc⟩:=hrc' (by omega)
 have q3:=hcc k _ h5
 have hbt:=hB.L.bt
 have hbc:=(hB.R.bc t (List.mem_of_getElem? h3)).1
 have hbn:=hB.R.bt
 have hter:terN l lt i=some t:=by
  unfold terN
  rw [h1]
  simpa using h3
 obtain⟨nm,cs,sh,hg,bl⟩:=t
 have HT0:=Lib.hid hter
 clear hter
 simp only at u0 q2 u2 u3 u4 h4 hbc
 generalize cs.length=nc at q2 h4 hbc
 generalize lt.length=mt at hi hbt
 have f1:T<nt:=by omega
 have f2:k<nc:=by omega
 clear hB hok hrt hcx hrT hct hrc' hcc h1 h3 h5 h6 hl h2 h4 hk
 go_enter Tryz.func265,Tryz.ntmps265
 go_wp2_with fail
 have KA:Kp w ((w.alloc (.cells #[.slice (some ⟨gt,ot,none⟩) nt ct,.slice Ak nk ck,.int .i64 a,.int .i64 b,.int .i64 c,.int .i64 d,.int .i64 e,.int .i64 W,.int .i64 H,.slice (some ⟨gx,ox,none⟩) mt bx,r,y] 47)).alloc (.cells #[.string ByteArray.empty,.slice none 0 0,.int .i64 0,.int .i64 0,.bool false] 230)):=((Kp.refl w).alloc _).alloc _
 have s0:((w.alloc (.cells #[.slice (some ⟨gt,ot,none⟩) nt ct,.slice Ak nk ck,.int .i64 a,.int .i64 b,.int .i64 c,.int .i64 d,.int .i64 e,.int .i64 W,.int .i64 H,.slice (some ⟨gx,ox,none⟩) mt bx,r,y] 47)).alloc (.cells #[.string ByteArray.empty,.slice none 0 0,.int .i64 0,.int .i64 0,.bool false] 230)).drew.cell? ⟨w.heap.size,0,none⟩=some (.slice (some ⟨gt,ot,none⟩) nt ct)∧((w.alloc (.cells #[.slice (some ⟨gt,ot,none⟩) nt ct,.slice Ak nk ck,.int .i64 a,.int .i64 b,.int .i64 c,.int .i64 d,.int .i64 e,.int .i64 W,.int .i64 H,.slice (some ⟨gx,ox,none⟩) mt bx,r,y] 47)).alloc (.cells #[.string ByteArray.empty,.slice none 0 0,.int .i64 0,.int .i64 0,.bool false] 230)).drew.cell? ⟨w.heap.size,9,none⟩=some (.slice (some ⟨gx,ox,none⟩) mt bx)∧((w.alloc (.cells #[.slice (some ⟨gt,ot,none⟩) nt ct,.slice Ak nk ck,.int .i64 a,.int .i64 b,.int .i64 c,.int .i64 d,.int .i64 e,.int .i64 W,.int .i64 H,.slice (some ⟨gx,ox,none⟩) mt bx,r,y] 47)).alloc (.cells #[.string ByteArray.empty,.slice none 0 0,.int .i64 0,.int .i64 0,.bool false] 230)).drew.cell? ⟨gx,ox+i,none⟩=some (.int .i64 (T:Int))∧((w.alloc (.cells #[.slice (some ⟨gt,ot,none⟩) nt ct,.slice Ak nk ck,.int .i64 a,.int .i64 b,.int .i64 c,.int .i64 d,.int .i64 e,.int .i64 W,.int .i64 H,.slice (some ⟨gx,ox,none⟩) mt bx,r,y] 47)).alloc (.cells #[.string ByteArray.empty,.slice none 0 0,.int .i64 0,.int .i64 0,.bool false] 230)).drew.cell? ⟨gt,ot+T*5,none⟩=some (.string nm)∧((w.alloc (.cells #[.slice (some ⟨gt,ot,none⟩) nt ct,.slice Ak nk ck,.int .i64 a,.int .i64 b,.int .i64 c,.int .i64 d,.int .i64 e,.int .i64 W,.int .i64 H,.slice (some ⟨gx,ox,none⟩) mt bx,r,y] 47)).alloc (.cells #[.string ByteArray.empty,.slice none 0 0,.int .i64 0,.int .i64 0,.bool false] 230)).drew.cell? ⟨gt,ot+T*5+1,none⟩=some (.slice (some ⟨gc,oc,none⟩) nc cc)∧((w.alloc (.cells #[.slice (some ⟨gt,ot,none⟩) nt ct,.slice Ak nk ck,.int .i64 a,.int .i64 b,.int .i64 c,.int .i64 d,.int .i64 e,.int .i64 W,.int .i64 H,.slice (some ⟨gx,ox,none⟩) mt bx,r,y] 47)).alloc (.cells #[.string ByteArray.empty,.slice none 0 0,.int .i64 0,.int .i64 0,.bool false] 230)).drew.cell? ⟨gt,ot+T*5+2,none⟩=some (.int .i64 sh)∧((w.alloc (.cells #[.slice (some ⟨gt,ot,none⟩) nt ct,.slice Ak nk ck,.int .i64 a,.int .i64 b,.int .i64 c,.int .i64 d,.int .i64 e,.int .i64 W,.int .i64 H,.slice (some ⟨gx,ox,none⟩) mt bx,r,y] 47)).alloc (.cells #[.string ByteArray.empty,.slice none 0 0,.int .i64 0,.int .i64 0,.bool false] 230)).drew.cell? ⟨gt,ot+T*5+3,none⟩=some (.int .i64 hg)∧((w.alloc (.cells #[.slice (some ⟨gt,ot,none⟩) nt ct,.slice Ak nk ck,.int .i64 a,.int .i64 b,.int .i64 c,.int .i64 d,.int .i64 e,.int .i64 W,.int .i64 H,.slice (some ⟨gx,ox,none⟩) mt bx,r,y] 47)).alloc (.cells #[.string ByteArray.empty,.slice none 0 0,.int .i64 0,.int .i64 0,.bool false] 230)).drew.cell? ⟨gt,ot+T*5+4,none⟩=some (.bool bl)∧((w.alloc (.cells #[.slice (some ⟨gt,ot,none⟩) nt ct,.slice Ak nk ck,.int .i64 a,.int .i64 b,.int .i64 c,.int .i64 d,.int .i64 e,.int .i64 W,.int .i64 H,.slice (some ⟨gx,ox,none⟩) mt bx,r,y] 47)).alloc (.cells #[.string ByteArray.empty,.slice none 0 0,.int .i64 0,.int .i64 0,.bool false] 230)).drew.cell? ⟨gc,oc+k,none⟩=some (.int .i64 z):=⟨by simp [go_sem],by simp [go_sem],KA.cell q1,KA.cell u0,KA.cell q2,KA.cell u2,KA.cell u3,KA.cell u4,KA.cell q3⟩
 have KB:Kp w ((w.alloc (.cells #[.slice (some ⟨gt,ot,none⟩) nt ct,.slice Ak nk ck,.int .i64 a,.int .i64 b,.int .i64 c,.int .i64 d,.int .i64 e,.int .i64 W,.int .i64 H,.slice (some ⟨gx,ox,none⟩) mt bx,r,y] 47)).alloc (.cells #[.string nm,.slice (some ⟨gc,oc,none⟩) nc cc,.int .i64 sh,.int .i64 hg,.bool bl] 230)):=((Kp.refl w).alloc _).alloc _
 have s1:((w.alloc (.cells #[.slice (some ⟨gt,ot,none⟩) nt ct,.slice Ak nk ck,.int .i64 a,.int .i64 b,.int .i64 c,.int .i64 d,.int .i64 e,.int .i64 W,.int .i64 H,.slice (some ⟨gx,ox,none⟩) mt bx,r,y] 47)).alloc (.cells #[.string nm,.slice (some ⟨gc,oc,none⟩) nc cc,.int .i64 sh,.int .i64 hg,.bool bl] 230)).drew.cell? ⟨w.heap.size,0,none⟩=some (.slice (some ⟨gt,ot,none⟩) nt ct)∧((w.alloc (.cells #[.slice (some ⟨gt,ot,none⟩) nt ct,.slice Ak nk ck,.int .i64 a,.int .i64 b,.int .i64 c,.int .i64 d,.int .i64 e,.int .i64 W,.int .i64 H,.slice (some ⟨gx,ox,none⟩) mt bx,r,y] 47)).alloc (.cells #[.string nm,.slice (some ⟨gc,oc,none⟩) nc cc,.int .i64 sh,.int .i64 hg,.bool bl] 230)).drew.cell? ⟨w.heap.size,9,none⟩=some (.slice (some ⟨gx,ox,none⟩) mt bx)∧((w.alloc (.cells #[.slice (some ⟨gt,ot,none⟩) nt ct,.slice Ak nk ck,.int .i64 a,.int .i64 b,.int .i64 c,.int .i64 d,.int .i64 e,.int .i64 W,.int .i64 H,.slice (some ⟨gx,ox,none⟩) mt bx,r,y] 47)).alloc (.cells #[.string nm,.slice (some ⟨gc,oc,none⟩) nc cc,.int .i64 sh,.int .i64 hg,.bool bl] 230)).drew.cell? ⟨gx,ox+i,none⟩=some (.int .i64 (T:Int))∧((w.alloc (.cells #[.slice (some ⟨gt,ot,none⟩) nt ct,.slice Ak nk ck,.int .i64 a,.int .i64 b,.int .i64 c,.int .i64 d,.int .i64 e,.int .i64 W,.int .i64 H,.slice (some ⟨gx,ox,none⟩) mt bx,r,y] 47)).alloc (.cells #[.string nm,.slice (some ⟨gc,oc,none⟩) nc cc,.int .i64 sh,.int .i64 hg,.bool bl] 230)).drew.cell? ⟨gt,ot+T*5,none⟩=some (.string nm)∧((w.alloc (.cells #[.slice (some ⟨gt,ot,none⟩) nt ct,.slice Ak nk ck,.int .i64 a,.int .i64 b,.int .i64 c,.int .i64 d,.int .i64 e,.int .i64 W,.int .i64 H,.slice (some ⟨gx,ox,none⟩) mt bx,r,y] 47)).alloc (.cells #[.string nm,.slice (some ⟨gc,oc,none⟩) nc cc,.int .i64 sh,.int .i64 hg,.bool bl] 230)).drew.cell? ⟨gt,ot+T*5+1,none⟩=some (.slice (some ⟨gc,oc,none⟩) nc cc)∧((w.alloc (.cells #[.slice (some ⟨gt,ot,none⟩) nt ct,.slice Ak nk ck,.int .i64 a,.int .i64 b,.int .i64 c,.int .i64 d,.int .i64 e,.int .i64 W,.int .i64 H,.slice (some ⟨gx,ox,none⟩) mt bx,r,y] 47)).alloc (.cells #[.string nm,.slice (some ⟨gc,oc,none⟩) nc cc,.int .i64 sh,.int .i64 hg,.bool bl] 230)).drew.cell? ⟨gt,ot+T*5+2,none⟩=some (.int .i64 sh)∧((w.alloc (.cells #[.slice (some ⟨gt,ot,none⟩) nt ct,.slice Ak nk ck,.int .i64 a,.int .i64 b,.int .i64 c,.int .i64 d,.int .i64 e,.int .i64 W,.int .i64 H,.slice (some ⟨gx,ox,none⟩) mt bx,r,y] 47)).alloc (.cells #[.string nm,.slice (some ⟨gc,oc,none⟩) nc cc,.int .i64 sh,.int .i64 hg,.bool bl] 230)).drew.cell? ⟨gt,ot+T*5+3,none⟩=some (.int .i64 hg)∧((w.alloc (.cells #[.slice (some ⟨gt,ot,none⟩) nt ct,.slice Ak nk ck,.int .i64 a,.int .i64 b,.int .i64 c,.int .i64 d,.int .i64 e,.int .i64 W,.int .i64 H,.slice (some ⟨gx,ox,none⟩) mt bx,r,y] 47)).alloc (.cells #[.string nm,.slice (some ⟨gc,oc,none⟩) nc cc,.int .i64 sh,.int .i64 hg,.bool bl] 230)).drew.cell? ⟨gt,ot+T*5+4,none⟩=some (.bool bl)∧((w.alloc (.cells #[.slice (some ⟨gt,ot,none⟩) nt ct,.slice Ak nk ck,.int .i64 a,.int .i64 b,.int .i64 c,.int .i64 d,.int .i64 e,.int .i64 W,.int .i64 H,.slice (some ⟨gx,ox,none⟩) mt bx,r,y] 47)).alloc (.cells #[.string nm,.slice (some ⟨gc,oc,none⟩) nc cc,.int .i64 sh,.int .i64 hg,.bool bl] 230)).drew.cell? ⟨gc,oc+k,none⟩=some (.int .i64 z):=⟨by simp [go_sem],by simp [go_sem],KB.cell q1,KB.cell u0,KB.cell q2,KB.cell u2,KB.cell u3,KB.cell u4,KB.cell q3⟩
 have p3:=KB.cell q3
 clear q1 q2 q3 u0 u2 u3 u4
 go_region_held3 (fun w'=>w'.cell? ⟨w.heap.size,0,none⟩=some (.slice (some ⟨gt,ot,none⟩) nt ct)∧w'.cell? ⟨w.heap.size,9,none⟩=some (.slice (some ⟨gx,ox,none⟩) mt bx)∧w'.cell? ⟨gx,ox+i,none⟩=some (.int .i64 (T:Int))∧w'.cell? ⟨gt,ot+T*5,none⟩=some (.string nm)∧w'.cell? ⟨gt,ot+T*5+1,none⟩=some (.slice (some ⟨gc,oc,none⟩) nc cc)∧w'.cell? ⟨gt,ot+T*5+2,none⟩=some (.int .i64 sh)∧w'.cell? ⟨gt,ot+T*5+3,none⟩=some (.int .i64 hg)∧w'.cell? ⟨gt,ot+T*5+4,none⟩=some (.bool bl)∧w'.cell? ⟨gc,oc+k,none⟩=some (.int .i64 z)) (first | assumption | exact s0 | exact s1) (fail)
 go_wp2_with fail
 exact bodyPost_ret (v:=tv nm (some ⟨gc,oc,none⟩) nc cc sh hg bl) (by simp [results,Tryz.results265,go_sem]) rfl ⟨nm,gc,oc,nc,cc,sh,⟨nm,cs,sh,hg,bl⟩,HT0.out,rfl,f2,p3,KB.drew⟩
theorem terrainAt_any (At Ak:Option Addr) (nt nk ct ck:Nat) (l:List Ter) (m:List Knd) (a b c d e W H:Int) (x r y:Value) (lt lr ld:List Int) (k i:Nat) (w:World) (hB:BrdAt w At Ak nt nk l m x r y lt lr ld) (hok:brdOk ⟨l,m,a,b,c,d,e⟩ W H lt lr ld=true) (hk:k<m.length) (hi:i<lt.length) :
  Calls Tryz.prog 265 #[bv (.slice At nt ct) (.slice Ak nk ck) a b c d e W H x r y,.int .i64 (i:Int)] w fun e' w'=>∃ (nm:ByteArray) (g o n c:Nat) (s h:Int) (b:Bool),e'=.returned (tv nm (some ⟨g,o,none⟩) n c s h b)∧k<n∧w'.cell? ⟨g,o+k,none⟩=some (.int .i64 (costB l lt k i))∧Kp w w' :=
 (terrainAt_full At Ak nt nk ct ck l m a b c d e W H x r y lt lr ld k i w hB hok hk hi).mono fun _ _ ⟨nm,g,o,n,c,s,t,_,h2,h3,h4,h5⟩=>⟨nm,g,o,n,c,s,t.height,t.blocks,h2,h3,h4,h5⟩
theorem fieldCost (nm:ByteArray) (A:Option Addr) (n c:Nat) (s h:Int) (b:Bool) (w:World):(Instr.field 230 (tv nm A n c s h b) 1).run Tryz.prog w=.ok (.slice A n c) w:=by kernel_rfl
set_option maxRecDepth 100000 in
set_option maxHeartbeats 4000000 in
theorem enterCost_any (At Ak:Option Addr) (nt nk ct ck:Nat) (l:List Ter) (m:List Knd) (a b c d e W H:Int) (x r y:Value) (lt lr ld:List Int) (k i:Nat) (w:World) (hB:BrdAt w At Ak nt nk l m x r y lt lr ld) (hok:brdOk ⟨l,m,a,b,c,d,e⟩ W H lt lr ld=true) (hk:k<m.length) (hi:i<lt.length) :
  Calls Tryz.prog 235 #[bv (.slice At nt ct) (.slice Ak nk ck) a b c d e W H x r y,.int .i64 (k:Int),.int .i64 (i:Int)] w fun e' w'=>e'=.returned (.int .i64 (costB l lt k i))∧Kp w w':=by
 have KA:Kp w (w.alloc (.cells #[.slice At nt ct,.slice Ak nk ck,.int .i64 a,.int .i64 b,.int .i64 c,.int .i64 d,.int .i64 e,.int .i64 W,.int .i64 H,x,r,y] 47)):=(Kp.refl w).alloc _
 have C1:=Lib.hid (terrainAt_any At Ak nt nk ct ck l m a b c d e W H x r y lt lr ld k i _ (hB.keep KA) hok hk hi)
 have hk4:k<4:=by have:=(rulOk_nt (brdOk_rul hok)).2.2;omega
 generalize costB l lt k i=X at C1 ⊢
 clear hB hok hk hi
 go_enter Tryz.func235,Tryz.ntmps235
 go_wp2_with fail
 refine C1.out.mono ?_
 rintro e1 w1 ⟨nm,g,o,n,c',s,h,b',rfl,hkn,p,k1⟩
 have hf:=fun w=>fieldCost nm (some ⟨g,o,none⟩) n c' s h b' w
 go_wp2_with fail
 go_ret
 exact⟨rfl,KA.trans k1⟩
end Go.Proofs.YtacgknllagdkoaaGreatDoor
