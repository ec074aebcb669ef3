/-
 Texts of this seat in one module: RulC, IsRulesI, RulR.
-/
import Derived.Test.YtacgknllagdkoaaGreatDoorQg
/-
 The laws' copy of rules: the same lists and numbers, in memory of its own. Nothing that was there is changed.
-/
namespace Go.Proofs.YtacgknllagdkoaaGreatDoor
open Go.RowKit
set_option maxRecDepth 100000 in
set_option maxHeartbeats 1000000 in
theorem toTerrain_any (nm:ByteArray) (A:Option Addr) (nc cc:Nat) (s h:Int) (b:Bool) (l:List Int) (w:World) (hr:RdI w (.slice A nc cc) l) (hn:nc≤1048576) :
  Calls Tryz.prog 181 #[tv nm A nc cc s h b] w fun e w'=>∃ A' c',e=.returned (tv nm A' nc c' s h b)∧OwnI w' (w.heap.size+1) (.slice A' nc c') l∧Kp w w':=by
 have hl:=hr.of_slice
 have C:Hid (∀ w,RdI w (.slice A nc cc) l→Calls Tryz.prog 51 #[.slice A nc cc] w fun e w'=>∃ A c,e=.returned (.slice A nc c)∧OwnI w' w.heap.size (.slice A nc c) l∧Kp w w'):=Lib.hid fun w h=>by
  have:=toIntS_sl _ l w h (by omega)
  rw [hl] at this
  exact this
 have HR:=Lib.hid hr
 clear hr hl
 go_enter Tryz.func181,Tryz.ntmps181
 go_wp2_with fail
 have k0:Kp w (((w.alloc (.cells #[.string nm,.slice A nc cc,.int .i64 s,.int .i64 h,.bool b] 224)).alloc (.cells #[.string ByteArray.empty,.slice none 0 0,.int .i64 0,.int .i64 0,.bool false] 230)).alloc (.cells #[.string nm,.slice none 0 0,.int .i64 0,.int .i64 0,.bool false] 230)):=(((Kp.refl w).alloc _).alloc _).alloc _
 refine(C.out _ (HR.out.keep k0)).mono ?_
 rintro e1 w1 ⟨A1,c1,rfl,o1,k1⟩
 have a2:w1.cell? ⟨w.heap.size,2,none⟩=some (.int .i64 s):=k1.cell (by simp [go_sem])
 have a3:w1.cell? ⟨w.heap.size,3,none⟩=some (.int .i64 h):=k1.cell (by simp [go_sem])
 have a4:w1.cell? ⟨w.heap.size,4,none⟩=some (.bool b):=k1.cell (by simp [go_sem])
 have L1:Live5 w1 (w.heap.size+1) (.string ByteArray.empty) (.slice none 0 0) (.int .i64 0) (.int .i64 0) (.bool false):=live5_keep k1 ⟨by simp [go_sem],by simp [go_sem],by simp [go_sem],by simp [go_sem],by simp [go_sem]⟩
 have M1:Live5 w1 (w.heap.size+1+1) (.string nm) (.slice none 0 0) (.int .i64 0) (.int .i64 0) (.bool false):=live5_keep k1 ⟨by simp [go_sem],by simp [go_sem],by simp [go_sem],by simp [go_sem],by simp [go_sem]⟩
 have K1:Kp w w1:=k0.trans k1
 have z1:w.heap.size+3≤w1.heap.size:=by have:=k1.size;simp at this;omega
 have O1:=Lib.hid (o1.base (b:=w.heap.size+3) (by simp <;> omega))
 clear k0 k1 o1
 go_wp2_with fail
 have n1:∀ g,g<w.heap.size+3→(Value.slice A1 nc c1).ownBlock ≠ some g:=fun g hg=>O1.out.not (by omega)
 refine bodyPost_ret (v:=tv nm A1 nc c1 s h b) (by simp [results,Tryz.results181,go_sem, *]) rfl ⟨_,_,rfl,?_,?_⟩
 ·exact(((((((((O1.out.far (n1 _ (by omega)) _).far (n1 _ (by omega)) _).far (n1 _ (by omega)) _).far (n1 _ (by omega)) _).far (n1 _ (by omega)) _).far (n1 _ (by omega)) _).far (n1 _ (by omega)) _).far (n1 _ (by omega)) _).far (n1 _ (by omega)) _).base (by omega)
 ·exact((((((((K1.setCell (by simp <;> omega) _).setCell (by simp <;> omega) _).setCell (by simp <;> omega) _).setCell (by simp <;> omega) _).setCell (by simp <;> omega) _).setCell (by simp <;> omega) _).setCell (by simp <;> omega) _).setCell (by simp <;> omega) _).setCell (by simp <;> omega) _
set_option maxRecDepth 100000 in
set_option maxHeartbeats 1000000 in
theorem toKind_any (nm:ByteArray) (a b c:Int) (z:Bool) (v:Int) (w:World) :
  Calls Tryz.prog 182 #[kv nm a b c z v] w fun e w'=>e=.returned (kv nm a b c z v)∧Kp w w':=by
 go_enter Tryz.func182,Tryz.ntmps182
 go_wp2_with fail
 exact bodyPost_ret (v:=kv nm a b c z v) (by simp [results,Tryz.results182,go_sem]) rfl ⟨rfl,(((Kp.refl w).alloc _).alloc _).alloc _⟩
theorem infoTer:(Tryz.prog.info? 230).map (fun i=>(i.zero,i.size,i.bytes))=some (some (tv ByteArray.empty none 0 0 0 0 false),5,64):=by kernel_rfl
theorem infoKnd:(Tryz.prog.info? 176).map (fun i=>(i.zero,i.size,i.bytes))=some (some (kv ByteArray.empty 0 0 0 false 0),6,56):=by kernel_rfl
theorem mkTers (n:Nat) (hn:n≤1048576) (w:World) :
  (Instr.makeSlice 41 (.int .i64 (n:Int)) (.int .i64 (n:Int))).run Tryz.prog w=.ok (.slice (some ⟨w.heap.size,0,none⟩) n n) (w.alloc (.cells (madeCells (tv ByteArray.empty none 0 0 0 0 false).cells (n*5)) 230)):=by
 obtain⟨i,hi,hz,hs,hb⟩:=info_parts infoTer
 have hr:=run_make (P:=Tryz.prog) w 41 230 i (tv ByteArray.empty none 0 0 0 0 false) Tryz.underlying41 hi hz .i64 .i64 (n:Int) (n:Int) (by omega) (by omega) (by rw [hb];omega) (by omega)
 rw [hs,Int.toNat_natCast] at hr
 exact hr
theorem mkKnds (n:Nat) (hn:n≤1048576) (w:World) :
  (Instr.makeSlice 42 (.int .i64 (n:Int)) (.int .i64 (n:Int))).run Tryz.prog w=.ok (.slice (some ⟨w.heap.size,0,none⟩) n n) (w.alloc (.cells (madeCells (kv ByteArray.empty 0 0 0 false 0).cells (n*6)) 176)):=by
 obtain⟨i,hi,hz,hs,hb⟩:=info_parts infoKnd
 have hr:=run_make (P:=Tryz.prog) w 42 176 i (kv ByteArray.empty 0 0 0 false 0) Tryz.underlying42 hi hz .i64 .i64 (n:Int) (n:Int) (by omega) (by omega) (by rw [hb];omega) (by omega)
 rw [hs,Int.toNat_natCast] at hr
 exact hr
/-- The cells of a copied terrain, at a place of a row's list. -/
def TerIn (ys:List Value) (j:Nat) (x:Ter) (c:Option Addr × Nat):Prop :=
 ys[j*5]?=some (.string x.name)∧ys[j*5+1]?=some (.slice c.1 x.cost.length c.2)∧ys[j*5+2]?=some (.int .i64 x.shift)∧ys[j*5+3]?=some (.int .i64 x.height)∧ys[j*5+4]?=some (.bool x.blocks)
def KndIn (ys:List Value) (j:Nat) (x:Knd):Prop :=
 ys[j*6]?=some (.string x.name)∧ys[j*6+1]?=some (.int .i64 x.str)∧ys[j*6+2]?=some (.int .i64 x.mov)∧ys[j*6+3]?=some (.int .i64 x.stp)∧ys[j*6+4]?=some (.bool x.zone)∧ys[j*6+5]?=some (.int .i64 x.view)
def set5 (ys:List Value) (k:Nat) (a b c d e:Value):List Value:=((((ys.set (k*5) a).set (k*5+1) b).set (k*5+2) c).set (k*5+3) d).set (k*5+4) e
def set6 (ys:List Value) (k:Nat) (a b c d e f:Value):List Value:=(((((ys.set (k*6) a).set (k*6+1) b).set (k*6+2) c).set (k*6+3) d).set (k*6+4) e).set (k*6+5) f
theorem set5_other {ys:List Value} {k j:Nat} {a b c d e:Value} (h:∀ i,i<5→k*5+i ≠ j):(set5 ys k a b c d e)[j]?=ys[j]?:=by
 unfold set5
 have h0:=h 0 (by omega);have h1:=h 1 (by omega);have h2:=h 2 (by omega);have h3:=h 3 (by omega);have h4:=h 4 (by omega)
 rw [List.getElem?_set_ne h4,List.getElem?_set_ne h3,List.getElem?_set_ne h2,List.getElem?_set_ne h1,List.getElem?_set_ne (by omega)]
theorem set6_other {ys:List Value} {k j:Nat} {a b c d e f:Value} (h:∀ i,i<6→k*6+i ≠ j):(set6 ys k a b c d e f)[j]?=ys[j]?:=by
 unfold set6
 have h0:=h 0 (by omega);have h1:=h 1 (by omega);have h2:=h 2 (by omega);have h3:=h 3 (by omega);have h4:=h 4 (by omega);have h5:=h 5 (by omega)
 rw [List.getElem?_set_ne h5,List.getElem?_set_ne h4,List.getElem?_set_ne h3,List.getElem?_set_ne h2,List.getElem?_set_ne h1,List.getElem?_set_ne (by omega)]
theorem terIn_new {ys:List Value} {k n:Nat} {x:Ter} {c:Option Addr × Nat} (hl:ys.length=n*5) (hk:k<n):TerIn (set5 ys k (.string x.name) (.slice c.1 x.cost.length c.2) (.int .i64 x.shift) (.int .i64 x.height) (.bool x.blocks)) k x c:=by
 unfold TerIn set5
 refine⟨?_,?_,?_,?_,?_⟩
 ·rw [List.getElem?_set_ne (by omega),List.getElem?_set_ne (by omega),List.getElem?_set_ne (by omega),List.getElem?_set_ne (by omega),List.getElem?_set_self (by omega)]
 ·rw [List.getElem?_set_ne (by omega),List.getElem?_set_ne (by omega),List.getElem?_set_ne (by omega),List.getElem?_set_self (by simp only [List.length_set];omega)]
 ·rw [List.getElem?_set_ne (by omega),List.getElem?_set_ne (by omega),List.getElem?_set_self (by simp only [List.length_set];omega)]
 ·rw [List.getElem?_set_ne (by omega),List.getElem?_set_self (by simp only [List.length_set];omega)]
 ·rw [List.getElem?_set_self (by simp only [List.length_set];omega)]
theorem kndIn_new {ys:List Value} {k n:Nat} {x:Knd} (hl:ys.length=n*6) (hk:k<n):KndIn (set6 ys k (.string x.name) (.int .i64 x.str) (.int .i64 x.mov) (.int .i64 x.stp) (.bool x.zone) (.int .i64 x.view)) k x:=by
 unfold KndIn set6
 refine⟨?_,?_,?_,?_,?_,?_⟩
 ·rw [List.getElem?_set_ne (by omega),List.getElem?_set_ne (by omega),List.getElem?_set_ne (by omega),List.getElem?_set_ne (by omega),List.getElem?_set_ne (by omega),List.getElem?_set_self (by omega)]
 ·rw [List.getElem?_set_ne (by omega),List.getElem?_set_ne (by omega),List.getElem?_set_ne (by omega),List.getElem?_set_ne (by omega),List.getElem?_set_self (by simp only [List.length_set];omega)]
 ·rw [List.getElem?_set_ne (by omega),List.getElem?_set_ne (by omega),List.getElem?_set_ne (by omega),List.getElem?_set_self (by simp only [List.length_set];omega)]
 ·rw [List.getElem?_set_ne (by omega),List.getElem?_set_ne (by omega),List.getElem?_set_self (by simp only [List.length_set];omega)]
 ·rw [List.getElem?_set_ne (by omega),List.getElem?_set_self (by simp only [List.length_set];omega)]
 ·rw [List.getElem?_set_self (by simp only [List.length_set];omega)]
theorem terIn_old {ys:List Value} {k j:Nat} {a b c' d e:Value} {x:Ter} {c:Option Addr × Nat} (h:TerIn ys j x c) (hj:j<k):TerIn (set5 ys k a b c' d e) j x c:=by
 obtain⟨h0,h1,h2,h3,h4⟩:=h
 exact⟨(set5_other (by omega)).trans h0,(set5_other (by omega)).trans h1,(set5_other (by omega)).trans h2,(set5_other (by omega)).trans h3,(set5_other (by omega)).trans h4⟩
theorem kndIn_old {ys:List Value} {k j:Nat} {a b c d e f:Value} {x:Knd} (h:KndIn ys j x) (hj:j<k):KndIn (set6 ys k a b c d e f) j x:=by
 obtain⟨h0,h1,h2,h3,h4,h5⟩:=h
 exact⟨(set6_other (by omega)).trans h0,(set6_other (by omega)).trans h1,(set6_other (by omega)).trans h2,(set6_other (by omega)).trans h3,(set6_other (by omega)).trans h4,(set6_other (by omega)).trans h5⟩
/-- Copied terrains: a row in block g, each terrain's costs in a block of their own behind it. -/
structure OwnT (w:World) (g n:Nat) (l:List Ter) (cs:List (Option Addr × Nat)) (ys:List Value):Prop where
 row:w.ownsRow g 230 5 (.slice (some ⟨g,0,none⟩) n n) n ys
 here:∀ (j:Nat) (x:Ter) (c:Option Addr × Nat),l[j]?=some x→cs[j]?=some c→TerIn ys j x c
 each:∀ (j:Nat) (x:Ter) (c:Option Addr × Nat),l[j]?=some x→cs[j]?=some c→OwnI w (g+1) (.slice c.1 x.cost.length c.2) x.cost
 apart:∀ (i j:Nat) (c d:Option Addr × Nat),i<j→cs[i]?=some c→cs[j]?=some d→∀ (x y k:Nat),(Value.slice c.1 x c.2).ownBlock=some k→(Value.slice d.1 y d.2).ownBlock ≠ some k
structure OwnK (w:World) (g n:Nat) (l:List Knd) (ys:List Value):Prop where
 row:w.ownsRow g 176 6 (.slice (some ⟨g,0,none⟩) n n) n ys
 here:∀ (j:Nat) (x:Knd),l[j]?=some x→KndIn ys j x
theorem OwnT.keep {w w':World} {g n:Nat} {l:List Ter} {cs:List (Option Addr × Nat)} {ys:List Value} (h:OwnT w g n l cs ys) (k:Kp w w'):OwnT w' g n l cs ys :=
 ⟨ownsRow_keep h.row k,h.here,fun j x c hx hc=>(h.each j x c hx hc).keep k,h.apart⟩
theorem OwnK.keep {w w':World} {g n:Nat} {l:List Knd} {ys:List Value} (h:OwnK w g n l ys) (k:Kp w w'):OwnK w' g n l ys:=⟨ownsRow_keep h.row k,h.here⟩
theorem OwnT.rd {w:World} {g n:Nat} {l:List Ter} {cs:List (Option Addr × Nat)} {ys:List Value} (h:OwnT w g n l cs ys) (hl:l.length=n) (hc:cs.length=n):RdT w (some ⟨g,0,none⟩) n l :=
 ⟨hl,fun _=>⟨g,0,rfl,fun i x hx=>by
  have hi:=lt_of_at hx
  have hcs:cs[i]?=some (cs[i]'(by omega)):=List.getElem?_eq_getElem _
  obtain⟨h0,h1,h2,h3,h4⟩:=h.here i x _ hx hcs
  have hlen:ys.length=n*5:=h.row.1
  have e:=(h.each i x _ hx hcs).rd
  rw [Nat.zero_add]
  refine⟨_,_,⟨?_,?_,?_,?_,?_⟩,e⟩
  ·exact(h.row.cellAt (i*5) (by omega)).trans h0
  ·exact(h.row.cellAt (i*5+1) (by omega)).trans h1
  ·exact(h.row.cellAt (i*5+2) (by omega)).trans h2
  ·exact(h.row.cellAt (i*5+3) (by omega)).trans h3
  ·exact(h.row.cellAt (i*5+4) (by omega)).trans h4⟩⟩
theorem OwnK.rd {w:World} {g n:Nat} {l:List Knd} {ys:List Value} (h:OwnK w g n l ys) (hl:l.length=n):RdK w (some ⟨g,0,none⟩) n l :=
 ⟨hl,fun _=>⟨g,0,rfl,fun i x hx=>by
  have hi:=lt_of_at hx
  obtain⟨h0,h1,h2,h3,h4,h5⟩:=h.here i x hx
  rw [Nat.zero_add]
  refine⟨?_,?_,?_,?_,?_,?_⟩
  ·exact(h.row.cellAt (i*6) (by omega)).trans h0
  ·exact(h.row.cellAt (i*6+1) (by omega)).trans h1
  ·exact(h.row.cellAt (i*6+2) (by omega)).trans h2
  ·exact(h.row.cellAt (i*6+3) (by omega)).trans h3
  ·exact(h.row.cellAt (i*6+4) (by omega)).trans h4
  ·exact(h.row.cellAt (i*6+5) (by omega)).trans h5⟩⟩
theorem stored5 {w:World} {base g n:Nat} {e:TypeId} {ys:List Value} {cap:Nat} (h:w.ownsRow base e 5 (.slice (some ⟨g,0,none⟩) n cap) n ys) (k:Nat) (a b c d f:Value) :
  ((((((w.setCell ⟨g,k*5,none⟩ a).setCell ⟨g,k*5+1,none⟩ b).setCell ⟨g,k*5+2,none⟩ c).setCell ⟨g,k*5+3,none⟩ d).setCell ⟨g,k*5+4,none⟩ f)).ownsRow base e 5 (.slice (some ⟨g,0,none⟩) n cap) n (set5 ys k a b c d f) :=
 (((((h.stored (k*5) a).1.stored (k*5+1) b).1.stored (k*5+2) c).1.stored (k*5+3) d).1.stored (k*5+4) f).1
theorem stored6 {w:World} {base g n:Nat} {e:TypeId} {ys:List Value} {cap:Nat} (h:w.ownsRow base e 6 (.slice (some ⟨g,0,none⟩) n cap) n ys) (k:Nat) (a b c d f p:Value) :
  (((((((w.setCell ⟨g,k*6,none⟩ a).setCell ⟨g,k*6+1,none⟩ b).setCell ⟨g,k*6+2,none⟩ c).setCell ⟨g,k*6+3,none⟩ d).setCell ⟨g,k*6+4,none⟩ f)).setCell ⟨g,k*6+5,none⟩ p).ownsRow base e 6 (.slice (some ⟨g,0,none⟩) n cap) n (set6 ys k a b c d f p) :=
 ((((((h.stored (k*6) a).1.stored (k*6+1) b).1.stored (k*6+2) c).1.stored (k*6+3) d).1.stored (k*6+4) f).1.stored (k*6+5) p).1
theorem liveN {w:World} {base g n sz:Nat} {e:TypeId} {ys:List Value} {cap:Nat} (h:w.ownsRow base e sz (.slice (some ⟨g,0,none⟩) n cap) n ys) {j:Nat} (hj:j<n*sz):(∃ u,w.cell? ⟨g,j,none⟩=some u)∧w.frozen? ⟨g,j,none⟩=false:=by
 have hlen:ys.length=n*sz:=h.1
 exact⟨⟨_,(h.cellAt j (by omega)).trans (List.getElem?_eq_getElem (by omega))⟩,h.frozenAt j⟩
theorem ownBlock_len (A:Option Addr) (x y c:Nat):(Value.slice A x c).ownBlock=(Value.slice A y c).ownBlock:=by cases A <;> rfl
theorem OwnT.step {w w1:World} {g n k:Nat} {l:List Ter} {cs:List (Option Addr × Nat)} {ys:List Value} {x:Ter} {A:Option Addr} {c:Nat} (h:OwnT w g n l cs ys) (hcs:cs.length=k) (hx:l[k]?=some x) (hk:k<n) (k1:Kp w w1) (hg:g<w.heap.size)
  (ho:OwnI w1 (w.heap.size+1) (.slice A x.cost.length c) x.cost) :
  OwnT (((((w1.setCell ⟨g,k*5,none⟩ (.string x.name)).setCell ⟨g,k*5+1,none⟩ (.slice A x.cost.length c)).setCell ⟨g,k*5+2,none⟩ (.int .i64 x.shift)).setCell ⟨g,k*5+3,none⟩ (.int .i64 x.height)).setCell ⟨g,k*5+4,none⟩ (.bool x.blocks)) g n l (cs++[(A,c)])
   (set5 ys k (.string x.name) (.slice A x.cost.length c) (.int .i64 x.shift) (.int .i64 x.height) (.bool x.blocks)):=by
 have hlen:ys.length=n*5:=h.row.1
 refine⟨stored5 (ownsRow_keep h.row k1) k _ _ _ _ _,?_,?_,?_⟩
 ·intro j y d hy hd
  rcases Nat.lt_or_ge j k with hj | hj
  ·rw [List.getElem?_append_left (by omega)] at hd
   exact terIn_old (h.here j y d hy hd) hj
  ·have hj2:j=k:=by have:=lt_of_at hd;simp at this;omega
   subst hj2
   rw [List.getElem?_append_right (by omega),hcs,Nat.sub_self] at hd
   obtain rfl:(A,c)=d:=by simpa using hd
   rw [hx] at hy
   obtain rfl:=Option.some.inj hy
   exact terIn_new (c:=(A,c)) hlen hk
 ·intro j y d hy hd
  have far:∀ {v l'} ,OwnI w1 (g+1) v l'→OwnI (((((w1.setCell ⟨g,k*5,none⟩ (.string x.name)).setCell ⟨g,k*5+1,none⟩ (.slice A x.cost.length c)).setCell ⟨g,k*5+2,none⟩ (.int .i64 x.shift)).setCell ⟨g,k*5+3,none⟩ (.int .i64 x.height)).setCell ⟨g,k*5+4,none⟩ (.bool x.blocks)) (g+1) v l':=fun {v l'} o=>by
   have n1:=o.not (g:=g) (by omega)
   exact((((o.far n1 _).far n1 _).far n1 _).far n1 _).far n1 _
  rcases Nat.lt_or_ge j k with hj | hj
  ·rw [List.getElem?_append_left (by omega)] at hd
   exact far ((h.each j y d hy hd).keep k1)
  ·have hj2:j=k:=by have:=lt_of_at hd;simp at this;omega
   subst hj2
   rw [List.getElem?_append_right (by omega),hcs,Nat.sub_self] at hd
   obtain rfl:(A,c)=d:=by simpa using hd
   rw [hx] at hy
   obtain rfl:=Option.some.inj hy
   exact far (ho.base (by omega))
 ·intro i j c1 d1 hij hc hd x1 y1 b hb hb'
  have hjl:j<k+1:=by have:=lt_of_at hd;simp at this;omega
  rw [List.getElem?_append_left (by omega)] at hc
  rcases Nat.lt_or_ge j k with hj | hj
  ·rw [List.getElem?_append_left (by omega)] at hd
   exact h.apart i j c1 d1 hij hc hd x1 y1 b hb hb'
  ·have hj2:j=k:=by omega
   subst hj2
   rw [List.getElem?_append_right (by omega),hcs,Nat.sub_self] at hd
   obtain rfl:(A,c)=d1:=by simpa using hd
   have hxi:l[i]?=some (l[i]'(by have:=lt_of_at hx;omega)):=List.getElem?_eq_getElem _
   have h1:=(World.ownsRow.lt (h.each i _ c1 hxi hc) b ((ownBlock_len _ _ _ _).trans hb)).2
   have h2:=(World.ownsRow.lt ho b ((ownBlock_len _ _ _ _).trans hb')).1
   omega
theorem OwnK.step {w:World} {g n k:Nat} {l:List Knd} {ys:List Value} {x:Knd} (h:OwnK w g n (l.take k) ys) (hx:l[k]?=some x) (hk:k<n) :
  OwnK ((((((w.setCell ⟨g,k*6,none⟩ (.string x.name)).setCell ⟨g,k*6+1,none⟩ (.int .i64 x.str)).setCell ⟨g,k*6+2,none⟩ (.int .i64 x.mov)).setCell ⟨g,k*6+3,none⟩ (.int .i64 x.stp)).setCell ⟨g,k*6+4,none⟩ (.bool x.zone)).setCell ⟨g,k*6+5,none⟩ (.int .i64 x.view)) g n (l.take (k+1))
   (set6 ys k (.string x.name) (.int .i64 x.str) (.int .i64 x.mov) (.int .i64 x.stp) (.bool x.zone) (.int .i64 x.view)):=by
 have hlen:ys.length=n*6:=h.row.1
 refine⟨stored6 h.row k _ _ _ _ _ _,fun j y hy=>?_⟩
 rw [List.getElem?_take] at hy
 split at hy
 ·rename_i hj
  rcases Nat.lt_or_ge j k with h1 | h1
  ·exact kndIn_old (h.here j y (by rw [List.getElem?_take,if_pos h1];exact hy)) h1
  ·obtain rfl:j=k:=by omega
   rw [hx] at hy
   obtain rfl:=Option.some.inj hy
   exact kndIn_new hlen hk
 ·cases hy
set_option maxRecDepth 100000 in
set_option maxHeartbeats 1000000 in
theorem toTerrainS_any (A:Option Addr) (n c:Nat) (l:List Ter) (w:World) (h:RdT w A n l) (hn:n≤1048576) (hcb:∀ x ∈ l,x.cost.length≤1048576) :
  Calls Tryz.prog 131 #[.slice A n c] w fun e w'=>∃ (cs:List (Option Addr × Nat)) (ys:List Value),e=.returned (.slice (some ⟨w.heap.size,0,none⟩) n n)∧cs.length=n∧OwnT w' w.heap.size n l cs ys∧Kp w w':=by
 have HN:=Lib.hid h.1
 have HA:=Lib.hid h.2
 have HB:=Lib.hid hcb
 have hmk:=fun w=>mkTers n hn w
 have own0:(w.alloc (.cells (madeCells (tv ByteArray.empty none 0 0 0 0 false).cells (n*5)) 230)).ownsRow w.heap.size 230 5 (.slice (some ⟨w.heap.size,0,none⟩) n n) n (madeCells (tv ByteArray.empty none 0 0 0 0 false).cells (n*5)).toList :=
  World.ownsRow_lit w _ n (Nat.le_refl _) (by simp only [maxLen];omega) (by rw [size_madeCells])
 clear h hcb
 go_enter Tryz.func131,Tryz.ntmps131
 go_wp2_with fail
 go_loopw [4] (fun i wr=>∃ (k:Nat) (cs:List (Option Addr × Nat)) (ys:List Value),k≤n∧i=.int .i64 k∧Hid (cs.length=k)∧Hid (OwnT wr w.heap.size n l cs ys)∧Kp w wr∧w.heap.size<wr.heap.size) (fun i _=>n - (intOf i).toNat)
 case atStart=>exact⟨0,[],_,by omega,rfl,Lib.hid rfl,Lib.hid ⟨own0,fun j x c hx hc=>by simp at hc,fun j x c hx hc=>by simp at hc,fun i j c d _ hc=>by simp at hc⟩,(Kp.refl _).alloc _,by simp⟩
 case round =>
  clear own0 hmk
  obtain⟨k,cs,ys,hk,rfl,HC,HO,kr,hz⟩:=hrel
  by_cases hlt:k<n
  ·have hlt':(k:Int)<n:=by omega
   obtain⟨g,off,rfl,hc⟩:=HA.out (by omega)
   obtain⟨x,hx⟩:∃ x,l[k]?=some x:=⟨l[k]'(by have:=HN.out;omega),List.getElem?_eq_getElem _⟩
   obtain⟨Ac,cc,⟨a0,a1,a2,a3,a4⟩,ra⟩:=(hc k x hx).keep kr
   have hnc:=HB.out x (List.mem_of_getElem? hx)
   have HX:=Lib.hid hx
   obtain⟨nm,cl,sh,hg,bl⟩:=x
   simp only at a0 a1 a2 a3 a4 ra hnc
   have HE:=Lib.hid (fun (w1:World) (A:Option Addr) (c:Nat) (k1:Kp wr w1) (ho:OwnI w1 (wr.heap.size+1) (.slice A cl.length c) cl)=>OwnT.step (x:=⟨nm,cl,sh,hg,bl⟩) HO.out HC.out HX.out hlt k1 hz ho)
   simp only at HE
   have RA:=Lib.hid ra
   generalize cl.length=nc at a1 RA hnc HE
   have HR:=Lib.hid HO.out.row
   clear hc hx ra
   go_wp2_with fail
   refine(toTerrain_any _ _ _ _ _ _ _ cl _ RA.out hnc).mono ?_
   rintro e1 w1 ⟨A1,c1,rfl,o1,k1⟩
   have HR1:=ownsRow_keep HR.out k1
   obtain⟨⟨u0,b0⟩,f0⟩:=liveN HR1 (j:=k*5) (by omega)
   obtain⟨⟨u1,b1⟩,f1⟩:=liveN HR1 (j:=k*5+1) (by omega)
   obtain⟨⟨u2,b2⟩,f2⟩:=liveN HR1 (j:=k*5+2) (by omega)
   obtain⟨⟨u3,b3⟩,f3⟩:=liveN HR1 (j:=k*5+3) (by omega)
   obtain⟨⟨u4,b4⟩,f4⟩:=liveN HR1 (j:=k*5+4) (by omega)
   have HT:=Lib.hid (HE.out w1 A1 c1 k1 o1)
   have K1:Kp w w1:=kr.trans k1
   have hz1:w.heap.size<w1.heap.size:=by have:=k1.size;omega
   have HC2:Hid ((cs++[(A1,c1)]).length=k+1):=Lib.hid (by have:=HC.out;simp;omega)
   clear HR1 HE o1 k1 a0 a1 a2 a3 a4 RA HO HR
   go_wp2_with fail
   go_roundw
   case rel=>exact⟨k+1,_,_,by omega,by go_num,HC2,HT,((((K1.setCell (by simp) _).setCell (by simp) _).setCell (by simp) _).setCell (by simp) _).setCell (by simp) _,by simpa using hz1⟩
   case measure=>simp [intOf];omega
  ·obtain rfl:k=n:=by omega
   go_wp2_with fail
   go_ret
   exact⟨cs,ys,rfl,HC.out,HO.out,kr⟩
set_option maxRecDepth 100000 in
set_option maxHeartbeats 1000000 in
theorem toKindS_any (A:Option Addr) (n c:Nat) (l:List Knd) (w:World) (h:RdK w A n l) (hn:n≤1048576) :
  Calls Tryz.prog 132 #[.slice A n c] w fun e w'=>∃ (ys:List Value),e=.returned (.slice (some ⟨w.heap.size,0,none⟩) n n)∧OwnK w' w.heap.size n l ys∧Kp w w':=by
 have HN:=Lib.hid h.1
 have HA:=Lib.hid h.2
 have hmk:=fun w=>mkKnds n hn w
 have own0:(w.alloc (.cells (madeCells (kv ByteArray.empty 0 0 0 false 0).cells (n*6)) 176)).ownsRow w.heap.size 176 6 (.slice (some ⟨w.heap.size,0,none⟩) n n) n (madeCells (kv ByteArray.empty 0 0 0 false 0).cells (n*6)).toList :=
  World.ownsRow_lit w _ n (Nat.le_refl _) (by simp only [maxLen];omega) (by rw [size_madeCells])
 clear h
 go_enter Tryz.func132,Tryz.ntmps132
 go_wp2_with fail
 go_loopw [4] (fun i wr=>∃ (k:Nat) (ys:List Value),k≤n∧i=.int .i64 k∧Hid (OwnK wr w.heap.size n (l.take k) ys)∧Kp w wr∧w.heap.size<wr.heap.size) (fun i _=>n - (intOf i).toNat)
 case atStart=>exact⟨0,_,by omega,rfl,Lib.hid ⟨own0,fun j x hx=>by simp at hx⟩,(Kp.refl _).alloc _,by simp⟩
 case round =>
  clear own0 hmk
  obtain⟨k,ys,hk,rfl,HO,kr,hz⟩:=hrel
  by_cases hlt:k<n
  ·have hlt':(k:Int)<n:=by omega
   obtain⟨g,off,rfl,hc⟩:=HA.out (by omega)
   obtain⟨x,hx⟩:∃ x,l[k]?=some x:=⟨l[k]'(by have:=HN.out;omega),List.getElem?_eq_getElem _⟩
   obtain⟨a0,a1,a2,a3,a4,a5⟩:=(hc k x hx).keep kr
   have HX:=Lib.hid hx
   obtain⟨nm,ks,km,kt,kz,kw⟩:=x
   simp only at a0 a1 a2 a3 a4 a5
   clear hc hx
   go_wp2_with fail
   refine(toKind_any _ _ _ _ _ _ _).mono ?_
   rintro e1 w1 ⟨rfl,k1⟩
   have HO1:=Lib.hid (HO.out.keep k1)
   have HR1:=HO1.out.row
   obtain⟨⟨u0,b0⟩,f0⟩:=liveN HR1 (j:=k*6) (by omega)
   obtain⟨⟨u1,b1⟩,f1⟩:=liveN HR1 (j:=k*6+1) (by omega)
   obtain⟨⟨u2,b2⟩,f2⟩:=liveN HR1 (j:=k*6+2) (by omega)
   obtain⟨⟨u3,b3⟩,f3⟩:=liveN HR1 (j:=k*6+3) (by omega)
   obtain⟨⟨u4,b4⟩,f4⟩:=liveN HR1 (j:=k*6+4) (by omega)
   obtain⟨⟨u5,b5⟩,f5⟩:=liveN HR1 (j:=k*6+5) (by omega)
   have HT:=Lib.hid (OwnK.step HO1.out HX.out hlt)
   simp only at HT
   have K1:Kp w w1:=kr.trans k1
   have hz1:w.heap.size<w1.heap.size:=by have:=k1.size;omega
   clear HR1 k1 a0 a1 a2 a3 a4 a5 HO HO1
   go_wp2_with fail
   go_roundw
   case rel=>exact⟨k+1,_,by omega,by go_num,HT,(((((K1.setCell (by simp) _).setCell (by simp) _).setCell (by simp) _).setCell (by simp) _).setCell (by simp) _).setCell (by simp) _,by simpa using hz1⟩
   case measure=>simp [intOf];omega
  ·obtain rfl:k=n:=by omega
   go_wp2_with fail
   go_ret
   have e:l.take k=l:=List.take_of_length_le (by have:=HN.out;omega)
   have HO2:=HO.out
   rw [e] at HO2
   exact⟨ys,rfl,HO2,kr⟩
end Go.Proofs.YtacgknllagdkoaaGreatDoor
/-
 The program's test of rules returns what a plain function on lists says, and changes nothing that was there. The ranges hold what the program's text lays.
-/
namespace Go.Proofs.YtacgknllagdkoaaGreatDoor
open Go.RowKit
/-- What rules are in memory: two slices that read as lists, and bounds. -/
structure RulAt (w:World) (At Ak:Option Addr) (nt nk:Nat) (l:List Ter) (m:List Knd):Prop where
 rt:RdT w At nt l
 rk:RdK w Ak nk m
 bt:nt≤1048576
 bk:nk≤1048576
 bc:∀ x ∈ l,x.cost.length≤1048576∧x.name.size≤1048576
 bn:∀ x ∈ m,x.name.size≤1048576
theorem RulAt.keep {w w':World} {At Ak:Option Addr} {nt nk:Nat} {l:List Ter} {m:List Knd} (h:RulAt w At Ak nt nk l m) (k:Kp w w'):RulAt w' At Ak nt nk l m :=
 ⟨h.rt.keep k,h.rk.keep k,h.bt,h.bk,h.bc,h.bn⟩
set_option maxRecDepth 100000 in
set_option maxHeartbeats 2000000 in
theorem isRules_no1 (At Ak:Option Addr) (nt nk ct ck:Nat) (l:List Ter) (m:List Knd) (a b c d e:Int) (w:World) (hs:Spans w) (h:RulAt w At Ak nt nk l m) (h1:spB 1 6 nt=false) :
  Calls Tryz.prog 213 #[rv (.slice At nt ct) (.slice Ak nk ck) a b c d e] w fun e' w'=>e'=.returned (.bool false)∧Kp w w':=by
 have s0:cb7 (w.alloc (.cells #[.slice At nt ct,.slice Ak nk ck,.int .i64 a,.int .i64 b,.int .i64 c,.int .i64 d,.int .i64 e] 44)) (w.heap.size) (.slice At nt ct) (.slice Ak nk ck) (.int .i64 a) (.int .i64 b) (.int .i64 c) (.int .i64 d) (.int .i64 e) (cb2 (w.alloc (.cells #[.slice At nt ct,.slice Ak nk ck,.int .i64 a,.int .i64 b,.int .i64 c,.int .i64 d,.int .i64 e] 44)) 10 (.int .i64 1) (.int .i64 6) (cb2 (w.alloc (.cells #[.slice At nt ct,.slice Ak nk ck,.int .i64 a,.int .i64 b,.int .i64 c,.int .i64 d,.int .i64 e] 44)) 11 (.int .i64 1) (.int .i64 4) (Kp w (w.alloc (.cells #[.slice At nt ct,.slice Ak nk ck,.int .i64 a,.int .i64 b,.int .i64 c,.int .i64 d,.int .i64 e] 44))))) :=
  ⟨by simp [go_sem],by simp [go_sem],by simp [go_sem],by simp [go_sem],by simp [go_sem],by simp [go_sem],by simp [go_sem],((Kp.refl w).alloc _).cell hs.terrains.1,((Kp.refl w).alloc _).cell hs.terrains.2,((Kp.refl w).alloc _).cell hs.kinds.1,((Kp.refl w).alloc _).cell hs.kinds.2,(Kp.refl w).alloc _⟩
 have HS:=Lib.hid hs
 have HL:=Lib.hid h
 have hb1:=h.bt
 have hb2:=h.bk
 clear hs h
 go_enter Tryz.func213,Tryz.ntmps213
 go_wp2_with fail
 generalize w.alloc (.cells #[.slice At nt ct,.slice Ak nk ck,.int .i64 a,.int .i64 b,.int .i64 c,.int .i64 d,.int .i64 e] 44)=W0 at *
 refine(has_any _ _ _ _).mono ?_
 rintro e1 w1 ⟨rfl,k1⟩
 have s1:cb7 w1 (w.heap.size) (.slice At nt ct) (.slice Ak nk ck) (.int .i64 a) (.int .i64 b) (.int .i64 c) (.int .i64 d) (.int .i64 e) (cb2 w1 10 (.int .i64 1) (.int .i64 6) (cb2 w1 11 (.int .i64 1) (.int .i64 4) (Kp w w1))):=⟨k1.cell s0.1,k1.cell s0.2.1,k1.cell s0.2.2.1,k1.cell s0.2.2.2.1,k1.cell s0.2.2.2.2.1,k1.cell s0.2.2.2.2.2.1,k1.cell s0.2.2.2.2.2.2.1,k1.cell s0.2.2.2.2.2.2.2.1,k1.cell s0.2.2.2.2.2.2.2.2.1,k1.cell s0.2.2.2.2.2.2.2.2.2.1,k1.cell s0.2.2.2.2.2.2.2.2.2.2.1,s0.2.2.2.2.2.2.2.2.2.2.2.trans k1⟩
 have K1:Kp W0 w1:=k1
 clear k1
 go_wp2_with fail
 go_ret
 exact⟨rfl,s1.2.2.2.2.2.2.2.2.2.2.2⟩
set_option maxRecDepth 100000 in
set_option maxHeartbeats 2000000 in
theorem isRules_no2 (At Ak:Option Addr) (nt nk ct ck:Nat) (l:List Ter) (m:List Knd) (a b c d e:Int) (w:World) (hs:Spans w) (h:RulAt w At Ak nt nk l m) (h1:spB 1 6 nt=true) (h2:spB 1 4 nk=false) :
  Calls Tryz.prog 213 #[rv (.slice At nt ct) (.slice Ak nk ck) a b c d e] w fun e' w'=>e'=.returned (.bool false)∧Kp w w':=by
 have s0:cb7 (w.alloc (.cells #[.slice At nt ct,.slice Ak nk ck,.int .i64 a,.int .i64 b,.int .i64 c,.int .i64 d,.int .i64 e] 44)) (w.heap.size) (.slice At nt ct) (.slice Ak nk ck) (.int .i64 a) (.int .i64 b) (.int .i64 c) (.int .i64 d) (.int .i64 e) (cb2 (w.alloc (.cells #[.slice At nt ct,.slice Ak nk ck,.int .i64 a,.int .i64 b,.int .i64 c,.int .i64 d,.int .i64 e] 44)) 10 (.int .i64 1) (.int .i64 6) (cb2 (w.alloc (.cells #[.slice At nt ct,.slice Ak nk ck,.int .i64 a,.int .i64 b,.int .i64 c,.int .i64 d,.int .i64 e] 44)) 11 (.int .i64 1) (.int .i64 4) (Kp w (w.alloc (.cells #[.slice At nt ct,.slice Ak nk ck,.int .i64 a,.int .i64 b,.int .i64 c,.int .i64 d,.int .i64 e] 44))))) :=
  ⟨by simp [go_sem],by simp [go_sem],by simp [go_sem],by simp [go_sem],by simp [go_sem],by simp [go_sem],by simp [go_sem],((Kp.refl w).alloc _).cell hs.terrains.1,((Kp.refl w).alloc _).cell hs.terrains.2,((Kp.refl w).alloc _).cell hs.kinds.1,((Kp.refl w).alloc _).cell hs.kinds.2,(Kp.refl w).alloc _⟩
 have HS:=Lib.hid hs
 have HL:=Lib.hid h
 have hb1:=h.bt
 have hb2:=h.bk
 clear hs h
 go_enter Tryz.func213,Tryz.ntmps213
 go_wp2_with fail
 generalize w.alloc (.cells #[.slice At nt ct,.slice Ak nk ck,.int .i64 a,.int .i64 b,.int .i64 c,.int .i64 d,.int .i64 e] 44)=W0 at *
 refine(has_any _ _ _ _).mono ?_
 rintro e1 w1 ⟨rfl,k1⟩
 have s1:cb7 w1 (w.heap.size) (.slice At nt ct) (.slice Ak nk ck) (.int .i64 a) (.int .i64 b) (.int .i64 c) (.int .i64 d) (.int .i64 e) (cb2 w1 10 (.int .i64 1) (.int .i64 6) (cb2 w1 11 (.int .i64 1) (.int .i64 4) (Kp w w1))):=⟨k1.cell s0.1,k1.cell s0.2.1,k1.cell s0.2.2.1,k1.cell s0.2.2.2.1,k1.cell s0.2.2.2.2.1,k1.cell s0.2.2.2.2.2.1,k1.cell s0.2.2.2.2.2.2.1,k1.cell s0.2.2.2.2.2.2.2.1,k1.cell s0.2.2.2.2.2.2.2.2.1,k1.cell s0.2.2.2.2.2.2.2.2.2.1,k1.cell s0.2.2.2.2.2.2.2.2.2.2.1,s0.2.2.2.2.2.2.2.2.2.2.2.trans k1⟩
 have K1:Kp W0 w1:=k1
 clear k1
 go_wp2_with fail
 refine(has_any _ _ _ _).mono ?_
 rintro e2 w2 ⟨rfl,k2⟩
 have s2:cb7 w2 (w.heap.size) (.slice At nt ct) (.slice Ak nk ck) (.int .i64 a) (.int .i64 b) (.int .i64 c) (.int .i64 d) (.int .i64 e) (cb2 w2 10 (.int .i64 1) (.int .i64 6) (cb2 w2 11 (.int .i64 1) (.int .i64 4) (Kp w w2))):=⟨k2.cell s1.1,k2.cell s1.2.1,k2.cell s1.2.2.1,k2.cell s1.2.2.2.1,k2.cell s1.2.2.2.2.1,k2.cell s1.2.2.2.2.2.1,k2.cell s1.2.2.2.2.2.2.1,k2.cell s1.2.2.2.2.2.2.2.1,k2.cell s1.2.2.2.2.2.2.2.2.1,k2.cell s1.2.2.2.2.2.2.2.2.2.1,k2.cell s1.2.2.2.2.2.2.2.2.2.2.1,s1.2.2.2.2.2.2.2.2.2.2.2.trans k2⟩
 have K2:Kp W0 w2:=K1.trans k2
 clear s1 K1 k2
 go_wp2_with fail
 go_ret
 exact⟨rfl,s2.2.2.2.2.2.2.2.2.2.2.2⟩
set_option maxRecDepth 100000 in
set_option maxHeartbeats 2000000 in
theorem isRules_no3 (At Ak:Option Addr) (nt nk ct ck:Nat) (l:List Ter) (m:List Knd) (a b c d e:Int) (w:World) (hs:Spans w) (h:RulAt w At Ak nt nk l m) (h1:spB 1 6 nt=true) (h2:spB 1 4 nk=true) (h3:limB a b c d e=false) :
  Calls Tryz.prog 213 #[rv (.slice At nt ct) (.slice Ak nk ck) a b c d e] w fun e' w'=>e'=.returned (.bool false)∧Kp w w':=by
 have s0:cb7 (w.alloc (.cells #[.slice At nt ct,.slice Ak nk ck,.int .i64 a,.int .i64 b,.int .i64 c,.int .i64 d,.int .i64 e] 44)) (w.heap.size) (.slice At nt ct) (.slice Ak nk ck) (.int .i64 a) (.int .i64 b) (.int .i64 c) (.int .i64 d) (.int .i64 e) (cb2 (w.alloc (.cells #[.slice At nt ct,.slice Ak nk ck,.int .i64 a,.int .i64 b,.int .i64 c,.int .i64 d,.int .i64 e] 44)) 10 (.int .i64 1) (.int .i64 6) (cb2 (w.alloc (.cells #[.slice At nt ct,.slice Ak nk ck,.int .i64 a,.int .i64 b,.int .i64 c,.int .i64 d,.int .i64 e] 44)) 11 (.int .i64 1) (.int .i64 4) (Kp w (w.alloc (.cells #[.slice At nt ct,.slice Ak nk ck,.int .i64 a,.int .i64 b,.int .i64 c,.int .i64 d,.int .i64 e] 44))))) :=
  ⟨by simp [go_sem],by simp [go_sem],by simp [go_sem],by simp [go_sem],by simp [go_sem],by simp [go_sem],by simp [go_sem],((Kp.refl w).alloc _).cell hs.terrains.1,((Kp.refl w).alloc _).cell hs.terrains.2,((Kp.refl w).alloc _).cell hs.kinds.1,((Kp.refl w).alloc _).cell hs.kinds.2,(Kp.refl w).alloc _⟩
 have HS:=Lib.hid hs
 have HL:=Lib.hid h
 have hb1:=h.bt
 have hb2:=h.bk
 clear hs h
 go_enter Tryz.func213,Tryz.ntmps213
 go_wp2_with fail
 generalize w.alloc (.cells #[.slice At nt ct,.slice Ak nk ck,.int .i64 a,.int .i64 b,.int .i64 c,.int .i64 d,.int .i64 e] 44)=W0 at *
 refine(has_any _ _ _ _).mono ?_
 rintro e1 w1 ⟨rfl,k1⟩
 have s1:cb7 w1 (w.heap.size) (.slice At nt ct) (.slice Ak nk ck) (.int .i64 a) (.int .i64 b) (.int .i64 c) (.int .i64 d) (.int .i64 e) (cb2 w1 10 (.int .i64 1) (.int .i64 6) (cb2 w1 11 (.int .i64 1) (.int .i64 4) (Kp w w1))):=⟨k1.cell s0.1,k1.cell s0.2.1,k1.cell s0.2.2.1,k1.cell s0.2.2.2.1,k1.cell s0.2.2.2.2.1,k1.cell s0.2.2.2.2.2.1,k1.cell s0.2.2.2.2.2.2.1,k1.cell s0.2.2.2.2.2.2.2.1,k1.cell s0.2.2.2.2.2.2.2.2.1,k1.cell s0.2.2.2.2.2.2.2.2.2.1,k1.cell s0.2.2.2.2.2.2.2.2.2.2.1,s0.2.2.2.2.2.2.2.2.2.2.2.trans k1⟩
 have K1:Kp W0 w1:=k1
 clear k1
 go_wp2_with fail
 refine(has_any _ _ _ _).mono ?_
 rintro e2 w2 ⟨rfl,k2⟩
 have s2:cb7 w2 (w.heap.size) (.slice At nt ct) (.slice Ak nk ck) (.int .i64 a) (.int .i64 b) (.int .i64 c) (.int .i64 d) (.int .i64 e) (cb2 w2 10 (.int .i64 1) (.int .i64 6) (cb2 w2 11 (.int .i64 1) (.int .i64 4) (Kp w w2))):=⟨k2.cell s1.1,k2.cell s1.2.1,k2.cell s1.2.2.1,k2.cell s1.2.2.2.1,k2.cell s1.2.2.2.2.1,k2.cell s1.2.2.2.2.2.1,k2.cell s1.2.2.2.2.2.2.1,k2.cell s1.2.2.2.2.2.2.2.1,k2.cell s1.2.2.2.2.2.2.2.2.1,k2.cell s1.2.2.2.2.2.2.2.2.2.1,k2.cell s1.2.2.2.2.2.2.2.2.2.2.1,s1.2.2.2.2.2.2.2.2.2.2.2.trans k2⟩
 have K2:Kp W0 w2:=K1.trans k2
 clear s1 K1 k2
 go_wp2_with fail
 refine(hasLimits_any _ _ _ _ _ _ _ _ (HS.out.keep s2.2.2.2.2.2.2.2.2.2.2.2)).mono ?_
 rintro e3 w3 ⟨rfl,k3⟩
 have s3:cb7 w3 (w.heap.size) (.slice At nt ct) (.slice Ak nk ck) (.int .i64 a) (.int .i64 b) (.int .i64 c) (.int .i64 d) (.int .i64 e) (cb2 w3 10 (.int .i64 1) (.int .i64 6) (cb2 w3 11 (.int .i64 1) (.int .i64 4) (Kp w w3))):=⟨k3.cell s2.1,k3.cell s2.2.1,k3.cell s2.2.2.1,k3.cell s2.2.2.2.1,k3.cell s2.2.2.2.2.1,k3.cell s2.2.2.2.2.2.1,k3.cell s2.2.2.2.2.2.2.1,k3.cell s2.2.2.2.2.2.2.2.1,k3.cell s2.2.2.2.2.2.2.2.2.1,k3.cell s2.2.2.2.2.2.2.2.2.2.1,k3.cell s2.2.2.2.2.2.2.2.2.2.2.1,s2.2.2.2.2.2.2.2.2.2.2.2.trans k3⟩
 have K3:Kp W0 w3:=K2.trans k3
 clear s2 K2 k3
 go_wp2_with fail
 go_ret
 exact⟨rfl,s3.2.2.2.2.2.2.2.2.2.2.2⟩
set_option maxRecDepth 100000 in
set_option maxHeartbeats 4000000 in
theorem isRules_yes (At Ak:Option Addr) (nt nk ct ck:Nat) (l:List Ter) (m:List Knd) (a b c d e:Int) (w:World) (hs:Spans w) (h:RulAt w At Ak nt nk l m) (h1:spB 1 6 nt=true) (h2:spB 1 4 nk=true) (h3:limB a b c d e=true) :
  Calls Tryz.prog 213 #[rv (.slice At nt ct) (.slice Ak nk ck) a b c d e] w fun e' w'=>e'=.returned (.bool (l.all (numT nk) && (m.all numK && (namesOk (tNames l) && namesOk (kNames m)))))∧Kp w w':=by
 have n6:nt≤1000∧nk≤1000:=by
  simp only [spB,Bool.and_eq_true,decide_eq_true_eq] at h1 h2
  omega
 obtain⟨n6,n4⟩:=n6
 have s0:cb7 (w.alloc (.cells #[.slice At nt ct,.slice Ak nk ck,.int .i64 a,.int .i64 b,.int .i64 c,.int .i64 d,.int .i64 e] 44)) (w.heap.size) (.slice At nt ct) (.slice Ak nk ck) (.int .i64 a) (.int .i64 b) (.int .i64 c) (.int .i64 d) (.int .i64 e) (cb2 (w.alloc (.cells #[.slice At nt ct,.slice Ak nk ck,.int .i64 a,.int .i64 b,.int .i64 c,.int .i64 d,.int .i64 e] 44)) 10 (.int .i64 1) (.int .i64 6) (cb2 (w.alloc (.cells #[.slice At nt ct,.slice Ak nk ck,.int .i64 a,.int .i64 b,.int .i64 c,.int .i64 d,.int .i64 e] 44)) 11 (.int .i64 1) (.int .i64 4) (Kp w (w.alloc (.cells #[.slice At nt ct,.slice Ak nk ck,.int .i64 a,.int .i64 b,.int .i64 c,.int .i64 d,.int .i64 e] 44))))) :=
  ⟨by simp [go_sem],by simp [go_sem],by simp [go_sem],by simp [go_sem],by simp [go_sem],by simp [go_sem],by simp [go_sem],((Kp.refl w).alloc _).cell hs.terrains.1,((Kp.refl w).alloc _).cell hs.terrains.2,((Kp.refl w).alloc _).cell hs.kinds.1,((Kp.refl w).alloc _).cell hs.kinds.2,(Kp.refl w).alloc _⟩
 have HS:=Lib.hid hs
 have HL:=Lib.hid h
 have hb1:=h.bt
 have hb2:=h.bk
 clear hs h
 obtain⟨R,hR⟩:∃ R,R=l.all (numT nk):=⟨_,rfl⟩
 obtain⟨Q,hQ⟩:∃ Q,Q=m.all numK:=⟨_,rfl⟩
 obtain⟨B1,hB1⟩:∃ B,B=namesOk (tNames l):=⟨_,rfl⟩
 obtain⟨B2,hB2⟩:∃ B,B=namesOk (kNames m):=⟨_,rfl⟩
 rw [← hR,← hQ,← hB1,← hB2]
 have HR:=Lib.hid hR
 have HQ:=Lib.hid hQ
 have HB1:=Lib.hid hB1
 have HB2:=Lib.hid hB2
 have HNt:=Lib.hid HL.out.rt.1
 have HNk:=Lib.hid HL.out.rk.1
 have HAt:=Lib.hid HL.out.rt.2
 have HAk:=Lib.hid HL.out.rk.2
 clear hR hQ hB1 hB2
 go_enter Tryz.func213,Tryz.ntmps213
 go_wp2_with fail
 generalize w.alloc (.cells #[.slice At nt ct,.slice Ak nk ck,.int .i64 a,.int .i64 b,.int .i64 c,.int .i64 d,.int .i64 e] 44)=W0 at *
 refine(has_any _ _ _ _).mono ?_
 rintro e1 w1 ⟨rfl,k1⟩
 have s1:cb7 w1 (w.heap.size) (.slice At nt ct) (.slice Ak nk ck) (.int .i64 a) (.int .i64 b) (.int .i64 c) (.int .i64 d) (.int .i64 e) (cb2 w1 10 (.int .i64 1) (.int .i64 6) (cb2 w1 11 (.int .i64 1) (.int .i64 4) (Kp w w1))):=⟨k1.cell s0.1,k1.cell s0.2.1,k1.cell s0.2.2.1,k1.cell s0.2.2.2.1,k1.cell s0.2.2.2.2.1,k1.cell s0.2.2.2.2.2.1,k1.cell s0.2.2.2.2.2.2.1,k1.cell s0.2.2.2.2.2.2.2.1,k1.cell s0.2.2.2.2.2.2.2.2.1,k1.cell s0.2.2.2.2.2.2.2.2.2.1,k1.cell s0.2.2.2.2.2.2.2.2.2.2.1,s0.2.2.2.2.2.2.2.2.2.2.2.trans k1⟩
 have K1:Kp W0 w1:=k1
 clear k1
 go_wp2_with fail
 refine(has_any _ _ _ _).mono ?_
 rintro e2 w2 ⟨rfl,k2⟩
 have s2:cb7 w2 (w.heap.size) (.slice At nt ct) (.slice Ak nk ck) (.int .i64 a) (.int .i64 b) (.int .i64 c) (.int .i64 d) (.int .i64 e) (cb2 w2 10 (.int .i64 1) (.int .i64 6) (cb2 w2 11 (.int .i64 1) (.int .i64 4) (Kp w w2))):=⟨k2.cell s1.1,k2.cell s1.2.1,k2.cell s1.2.2.1,k2.cell s1.2.2.2.1,k2.cell s1.2.2.2.2.1,k2.cell s1.2.2.2.2.2.1,k2.cell s1.2.2.2.2.2.2.1,k2.cell s1.2.2.2.2.2.2.2.1,k2.cell s1.2.2.2.2.2.2.2.2.1,k2.cell s1.2.2.2.2.2.2.2.2.2.1,k2.cell s1.2.2.2.2.2.2.2.2.2.2.1,s1.2.2.2.2.2.2.2.2.2.2.2.trans k2⟩
 have K2:Kp W0 w2:=K1.trans k2
 clear s1 K1 k2
 go_wp2_with fail
 refine(hasLimits_any _ _ _ _ _ _ _ _ (HS.out.keep s2.2.2.2.2.2.2.2.2.2.2.2)).mono ?_
 rintro e3 w3 ⟨rfl,k3⟩
 have s3:cb7 w3 (w.heap.size) (.slice At nt ct) (.slice Ak nk ck) (.int .i64 a) (.int .i64 b) (.int .i64 c) (.int .i64 d) (.int .i64 e) (cb2 w3 10 (.int .i64 1) (.int .i64 6) (cb2 w3 11 (.int .i64 1) (.int .i64 4) (Kp w w3))):=⟨k3.cell s2.1,k3.cell s2.2.1,k3.cell s2.2.2.1,k3.cell s2.2.2.2.1,k3.cell s2.2.2.2.2.1,k3.cell s2.2.2.2.2.2.1,k3.cell s2.2.2.2.2.2.2.1,k3.cell s2.2.2.2.2.2.2.2.1,k3.cell s2.2.2.2.2.2.2.2.2.1,k3.cell s2.2.2.2.2.2.2.2.2.2.1,k3.cell s2.2.2.2.2.2.2.2.2.2.2.1,s2.2.2.2.2.2.2.2.2.2.2.2.trans k3⟩
 have K3:Kp W0 w3:=K2.trans k3
 clear s2 K2 k3
 go_wp2_with fail
 clear s0
 go_loopw [4,29] (fun _ i wr=>∃ k:Nat,k≤nt∧i=.int .i64 k∧Hid ((l.drop k).all (numT nk)=R)∧Kp w3 wr) (fun _ i _=>nt - (intOf i).toNat)
 case atStart=>exact⟨0,by omega,rfl,Lib.hid HR.out.symm,Kp.refl _⟩
 case round =>
  obtain⟨k,hk,rfl,hE,kr⟩:=hrel
  have K0:Kp w wr:=s3.2.2.2.2.2.2.2.2.2.2.2.trans kr
  by_cases hlt:k<nt
  ·have hlt':(k:Int)<nt:=by omega
   obtain⟨g,off,rfl,hc⟩:=HAt.out (by omega)
   obtain⟨x,hx⟩:∃ x,l[k]?=some x:=⟨l[k]'(by have:=HNt.out;omega),List.getElem?_eq_getElem _⟩
   obtain⟨Ac,cc,⟨a0,a1,a2,a3,a4⟩,hri⟩:=(hc k x hx).keep K0
   have HX:=Lib.hid (dropA hx)
   have hcb:=(HL.out.bc x (List.mem_of_getElem? hx)).1
   obtain⟨nm,cs,sh,hg,bl⟩:=x
   simp only at a0 a1 a2 a3 a4 hri hcb
   have c1:=kr.cell s3.2.1
   have hz:=cell_lt c1
   generalize hnc:cs.length=nc at a1 hri hcb
   have HNC2:=Lib.hid hnc
   clear hc hx hnc
   have KA:Kp wr (wr.alloc (.cells #[.string nm,.slice Ac nc cc,.int .i64 sh,.int .i64 hg,.bool bl] 230)):=(Kp.refl wr).alloc _
   have HRI:=Lib.hid (hri.keep KA)
   clear hri
   cases hok:numT nk ⟨nm,cs,sh,hg,bl⟩
   ·have HE2:Hid (R=false):=Lib.hid (by rw [← hE.out,HX.out];exact allA_no hok)
    go_wp2_with fail
    refine(tNumbers_any _ _ _ _ _ _ _ cs _ _ (HS.out.keep (K0.trans KA)) HNC2.out HRI.out hcb (by omega)).mono ?_
    rintro e4 w4 ⟨rfl,k4⟩
    rw [hok]
    go_wp2_with fail
    go_ret
    exact⟨ret_bool (by rw [HE2.out];rfl),(K0.trans KA).trans k4⟩
   ·have HE2:Hid ((l.drop (k+1)).all (numT nk)=R):=Lib.hid (by rw [← hE.out,HX.out];exact(allA_go hok).symm)
    go_wp2_with fail
    refine(tNumbers_any _ _ _ _ _ _ _ cs _ _ (HS.out.keep (K0.trans KA)) HNC2.out HRI.out hcb (by omega)).mono ?_
    rintro e4 w4 ⟨rfl,k4⟩
    rw [hok]
    go_wp2_with fail
    go_roundw
    case rel=>exact⟨k+1,by omega,by go_num,HE2,(kr.trans KA).trans k4⟩
    case measure=>simp [intOf];omega
  ·obtain rfl:k=nt:=by omega
   have HR1:Hid (R=true):=Lib.hid (by rw [← hE.out,List.drop_of_length_le (by rw [HNt.out];omega)];rfl)
   have c1:=kr.cell s3.2.1
   go_wp2_with fail
   go_loopw [6,43] (fun _ i wx=>∃ j:Nat,j≤nk∧i=.int .i64 j∧Hid ((m.drop j).all numK=Q)∧Kp w3 wx) (fun _ i _=>nk - (intOf i).toNat)
   case atStart=>exact⟨0,by omega,rfl,Lib.hid HQ.out.symm,kr⟩
   case round =>
    clear c1 K0 kr hE
    obtain⟨j,hj,rfl,hE,kr⟩:=hrel
    have K0:Kp w wr:=s3.2.2.2.2.2.2.2.2.2.2.2.trans kr
    by_cases hlt:j<nk
    ·have hlt':(j:Int)<nk:=by omega
     obtain⟨g,off,rfl,hc⟩:=HAk.out (by omega)
     obtain⟨x,hx⟩:∃ x,m[j]?=some x:=⟨m[j]'(by have:=HNk.out;omega),List.getElem?_eq_getElem _⟩
     obtain⟨a0,a1,a2,a3,a4,a5⟩:=(hc j x hx).keep K0
     have HX:=Lib.hid (dropA hx)
     obtain⟨nm,ks,km,kt,kz,kw⟩:=x
     simp only at a0 a1 a2 a3 a4 a5
     clear hc hx
     have KA:Kp wr (wr.alloc (.cells #[.string nm,.int .i64 ks,.int .i64 km,.int .i64 kt,.bool kz,.int .i64 kw] 176)):=(Kp.refl wr).alloc _
     cases hok:numK ⟨nm,ks,km,kt,kz,kw⟩
     ·have HE2:Hid (Q=false):=Lib.hid (by rw [← hE.out,HX.out];exact allA_no hok)
      go_wp2_with fail
      refine(kNumbers_any _ _ _ _ _ _ _ (HS.out.keep (K0.trans KA))).mono ?_
      rintro e4 w4 ⟨rfl,k4⟩
      rw [hok]
      go_wp2_with fail
      go_ret
      exact⟨ret_bool (by rw [HR1.out,HE2.out];rfl),(K0.trans KA).trans k4⟩
     ·have HE2:Hid ((m.drop (j+1)).all numK=Q):=Lib.hid (by rw [← hE.out,HX.out];exact(allA_go hok).symm)
      go_wp2_with fail
      refine(kNumbers_any _ _ _ _ _ _ _ (HS.out.keep (K0.trans KA))).mono ?_
      rintro e4 w4 ⟨rfl,k4⟩
      rw [hok]
      go_wp2_with fail
      go_roundw
      case rel=>exact⟨j+1,by omega,by go_num,HE2,(kr.trans KA).trans k4⟩
      case measure=>simp [intOf];omega
    ·obtain rfl:j=nk:=by omega
     have HQ1:Hid (Q=true):=Lib.hid (by rw [← hE.out,List.drop_of_length_le (by rw [HNk.out];omega)];rfl)
     have b0:=kr.cell s3.1
     have b1:=kr.cell s3.2.1
     have b2:=kr.cell s3.2.2.1
     have b3:=kr.cell s3.2.2.2.1
     have b4:=kr.cell s3.2.2.2.2.1
     have b5:=kr.cell s3.2.2.2.2.2.1
     have b6:=kr.cell s3.2.2.2.2.2.2.1
     cases hn1:B1
     ·have HZ:Hid (namesOk (tNames l)=false):=Lib.hid (by rw [← HB1.out,hn1])
      go_wp2_with fail
      refine(terrainNames_any _ _ _ l _ _ _ _ _ _ _ (HL.out.keep K0).rt n6).mono ?_
      rintro e5 w5 ⟨An,cn,rfl,hrs,hnc,hcc,k5⟩
      go_wp2_with fail
      refine(areNames_any _ _ _ (tNames l) _ (by have:=HNt.out;simpa [tNames] using this) hrs hb1 hnc hcc).mono ?_
      rintro e6 w6 ⟨rfl,rfl⟩
      rw [HZ.out]
      go_wp2_with fail
      go_ret
      exact⟨ret_bool (by rw [HR1.out,HQ1.out,hn1];rfl),K0.trans k5⟩
     ·have HZ:Hid (namesOk (tNames l)=true):=Lib.hid (by rw [← HB1.out,hn1])
      go_wp2_with fail
      refine(terrainNames_any _ _ _ l _ _ _ _ _ _ _ (HL.out.keep K0).rt n6).mono ?_
      rintro e5 w5 ⟨An,cn,rfl,hrs,hnc,hcc,k5⟩
      have HRS:=Lib.hid hrs
      have d0:=k5.cell b0
      have d1:=k5.cell b1
      have d2:=k5.cell b2
      have d3:=k5.cell b3
      have d4:=k5.cell b4
      have d5:=k5.cell b5
      have d6:=k5.cell b6
      clear hrs b0 b1 b2 b3 b4 b5 b6
      go_wp2_with fail
      refine(areNames_any _ _ _ (tNames l) _ (by have:=HNt.out;simpa [tNames] using this) HRS.out hb1 hnc hcc).mono ?_
      rintro e6 w6 ⟨rfl,rfl⟩
      rw [HZ.out]
      go_wp2_with fail
      refine(kindNames_any _ _ _ m _ _ _ _ _ _ _ (HL.out.keep (K0.trans k5)).rk n4).mono ?_
      rintro e7 w7 ⟨Am,cm,rfl,hrs2,hnc2,hcc2,k7⟩
      have HRS2:=Lib.hid hrs2
      clear hrs2
      go_wp2_with fail
      refine(areNames_any _ _ _ (kNames m) _ (by have:=HNk.out;simpa [kNames] using this) HRS2.out hb2 hnc2 hcc2).mono ?_
      rintro e8 w8 ⟨rfl,rfl⟩
      rw [← HB2.out]
      go_wp2_with fail
      go_ret
      exact⟨ret_bool (by rw [HR1.out,HQ1.out,hn1];rfl),(K0.trans k5).trans k7⟩
theorem isRules_any (At Ak:Option Addr) (nt nk ct ck:Nat) (l:List Ter) (m:List Knd) (a b c d e:Int) (w:World) (hs:Spans w) (h:RulAt w At Ak nt nk l m) :
  Calls Tryz.prog 213 #[rv (.slice At nt ct) (.slice Ak nk ck) a b c d e] w fun e' w'=>e'=.returned (.bool (rulOk ⟨l,m,a,b,c,d,e⟩))∧Kp w w':=by
 unfold rulOk
 simp only [h.rt.1,h.rk.1]
 cases h1:spB 1 6 nt
 ·exact isRules_no1 At Ak nt nk ct ck l m a b c d e w hs h h1
 ·cases h2:spB 1 4 nk
  ·exact isRules_no2 At Ak nt nk ct ck l m a b c d e w hs h h1 h2
  ·cases h3:limB a b c d e
   ·exact isRules_no3 At Ak nt nk ct ck l m a b c d e w hs h h1 h2 h3
   ·exact isRules_yes At Ak nt nk ct ck l m a b c d e w hs h h1 h2 h3
end Go.Proofs.YtacgknllagdkoaaGreatDoor
/-
 The laws' copy of rules: the same lists and numbers, in memory of its own. Nothing that was there is changed.
-/
namespace Go.Proofs.YtacgknllagdkoaaGreatDoor
open Go.RowKit
abbrev Live7 (w:World) (b:Nat) (v0 v1 v2 v3 v4 v5 v6:Value):Prop :=
 (w.cell? ⟨b,0,none⟩=some v0∧w.frozen? ⟨b,0,none⟩=false)∧(w.cell? ⟨b,1,none⟩=some v1∧w.frozen? ⟨b,1,none⟩=false)∧(w.cell? ⟨b,2,none⟩=some v2∧w.frozen? ⟨b,2,none⟩=false)∧(w.cell? ⟨b,3,none⟩=some v3∧w.frozen? ⟨b,3,none⟩=false)∧(w.cell? ⟨b,4,none⟩=some v4∧w.frozen? ⟨b,4,none⟩=false)∧(w.cell? ⟨b,5,none⟩=some v5∧w.frozen? ⟨b,5,none⟩=false)∧(w.cell? ⟨b,6,none⟩=some v6∧w.frozen? ⟨b,6,none⟩=false)
theorem live7_keep {w w':World} {b:Nat} {v0 v1 v2 v3 v4 v5 v6:Value} (k:Kp w w') (h:Live7 w b v0 v1 v2 v3 v4 v5 v6):Live7 w' b v0 v1 v2 v3 v4 v5 v6 :=
 ⟨k.liv h.1,k.liv h.2.1,k.liv h.2.2.1,k.liv h.2.2.2.1,k.liv h.2.2.2.2.1,k.liv h.2.2.2.2.2.1,k.liv h.2.2.2.2.2.2⟩
theorem ownRow_far {w:World} {base g n sz cap:Nat} {e:TypeId} {ys:List Value} (h:w.ownsRow base e sz (.slice (some ⟨g,0,none⟩) n cap) n ys) {b j:Nat} (hb:b<base) (u:Value):(w.setCell ⟨b,j,none⟩ u).ownsRow base e sz (.slice (some ⟨g,0,none⟩) n cap) n ys :=
 ownsRow_setCell_below h (a:=⟨b,j,none⟩) hb u
theorem OwnT.far {w:World} {g n:Nat} {l:List Ter} {cs:List (Option Addr × Nat)} {ys:List Value} (h:OwnT w g n l cs ys) {b j:Nat} (hb:b<g) (u:Value):OwnT (w.setCell ⟨b,j,none⟩ u) g n l cs ys :=
 ⟨ownRow_far h.row hb u,h.here,fun i x c hx hc=>(h.each i x c hx hc).far ((h.each i x c hx hc).not (by omega)) u,h.apart⟩
theorem OwnK.far {w:World} {g n:Nat} {l:List Knd} {ys:List Value} (h:OwnK w g n l ys) {b j:Nat} (hb:b<g) (u:Value):OwnK (w.setCell ⟨b,j,none⟩ u) g n l ys :=
 ⟨ownRow_far h.row hb u,h.here⟩
/-- Copied rules: the terrains' row, their costs, the kinds' row, in blocks of their own from a number on. -/
structure OwnR (w:World) (base g1 g2 nt nk:Nat) (l:List Ter) (m:List Knd) (cs:List (Option Addr × Nat)) (ys zs:List Value):Prop where
 t:OwnT w g1 nt l cs ys
 k:OwnK w g2 nk m zs
 lc:cs.length=nt
 lt:l.length=nt
 lk:m.length=nk
 b:base≤g1
 g:g1<g2
 z:g2<w.heap.size
 mid:∀ (j:Nat) (c:Option Addr × Nat) (x k:Nat),cs[j]?=some c→(Value.slice c.1 x c.2).ownBlock=some k→g1<k∧k<g2
theorem OwnR.keep {w w':World} {base g1 g2 nt nk:Nat} {l:List Ter} {m:List Knd} {cs:List (Option Addr × Nat)} {ys zs:List Value} (h:OwnR w base g1 g2 nt nk l m cs ys zs) (k:Kp w w'):OwnR w' base g1 g2 nt nk l m cs ys zs :=
 ⟨h.t.keep k,h.k.keep k,h.lc,h.lt,h.lk,h.b,h.g,Nat.lt_of_lt_of_le h.z k.size,h.mid⟩
theorem OwnR.rul {w w0:World} {At Ak:Option Addr} {base g1 g2 nt nk:Nat} {l:List Ter} {m:List Knd} {cs:List (Option Addr × Nat)} {ys zs:List Value} (h:OwnR w base g1 g2 nt nk l m cs ys zs) (r:RulAt w0 At Ak nt nk l m):RulAt w (some ⟨g1,0,none⟩) (some ⟨g2,0,none⟩) nt nk l m :=
 ⟨h.t.rd h.lt h.lc,h.k.rd h.lk,r.bt,r.bk,r.bc,r.bn⟩
set_option maxRecDepth 100000 in
set_option maxHeartbeats 2000000 in
theorem toRules_any (At Ak:Option Addr) (nt nk ct ck:Nat) (l:List Ter) (m:List Knd) (a b c d e:Int) (w:World) (h:RulAt w At Ak nt nk l m) :
  Calls Tryz.prog 65 #[rv (.slice At nt ct) (.slice Ak nk ck) a b c d e] w fun e' w'=>∃ (g1 g2:Nat) (cs:List (Option Addr × Nat)) (ys zs:List Value),e'=.returned (rv (.slice (some ⟨g1,0,none⟩) nt nt) (.slice (some ⟨g2,0,none⟩) nk nk) a b c d e)∧OwnR w' w.heap.size g1 g2 nt nk l m cs ys zs∧Kp w w':=by
 have HL:=Lib.hid h
 have hb1:=h.bt
 have hb2:=h.bk
 have HBC:Hid (∀ x ∈ l,x.cost.length≤1048576):=Lib.hid fun x hx=>(h.bc x hx).1
 clear h
 go_enter Tryz.func65,Tryz.ntmps65
 go_wp2_with fail
 have k0:Kp w (((w.alloc (.cells #[.slice At nt ct,.slice Ak nk ck,.int .i64 a,.int .i64 b,.int .i64 c,.int .i64 d,.int .i64 e] 25)).alloc (.cells #[.slice none 0 0,.slice none 0 0,.int .i64 0,.int .i64 0,.int .i64 0,.int .i64 0,.int .i64 0] 44)).alloc (.cells #[.slice none 0 0,.slice none 0 0,.int .i64 0,.int .i64 0,.int .i64 0,.int .i64 0,.int .i64 0] 44)):=(((Kp.refl w).alloc _).alloc _).alloc _
 refine(toTerrainS_any _ _ _ l _ (HL.out.keep k0).rt hb1 HBC.out).mono ?_
 rintro e1 w1 ⟨cs,ys,rfl,hcs,o1,k1⟩
 have a1:w1.cell? ⟨w.heap.size,1,none⟩=some (.slice Ak nk ck):=k1.cell (by simp [go_sem])
 have a2:w1.cell? ⟨w.heap.size,2,none⟩=some (.int .i64 a):=k1.cell (by simp [go_sem])
 have a3:w1.cell? ⟨w.heap.size,3,none⟩=some (.int .i64 b):=k1.cell (by simp [go_sem])
 have a4:w1.cell? ⟨w.heap.size,4,none⟩=some (.int .i64 c):=k1.cell (by simp [go_sem])
 have a5:w1.cell? ⟨w.heap.size,5,none⟩=some (.int .i64 d):=k1.cell (by simp [go_sem])
 have a6:w1.cell? ⟨w.heap.size,6,none⟩=some (.int .i64 e):=k1.cell (by simp [go_sem])
 have L1:Live7 w1 (w.heap.size+1) (.slice none 0 0) (.slice none 0 0) (.int .i64 0) (.int .i64 0) (.int .i64 0) (.int .i64 0) (.int .i64 0):=live7_keep k1 ⟨by simp [go_sem],by simp [go_sem],by simp [go_sem],by simp [go_sem],by simp [go_sem],by simp [go_sem],by simp [go_sem]⟩
 have M1:Live7 w1 (w.heap.size+1+1) (.slice none 0 0) (.slice none 0 0) (.int .i64 0) (.int .i64 0) (.int .i64 0) (.int .i64 0) (.int .i64 0):=live7_keep k1 ⟨by simp [go_sem],by simp [go_sem],by simp [go_sem],by simp [go_sem],by simp [go_sem],by simp [go_sem],by simp [go_sem]⟩
 have K1:Kp w w1:=k0.trans k1
 have z1:w.heap.size+3<w1.heap.size:=by
  have:=World.ownsRow.lt o1.row _ rfl
  simp at this
  omega
 have eg:(((w.alloc (.cells #[.slice At nt ct,.slice Ak nk ck,.int .i64 a,.int .i64 b,.int .i64 c,.int .i64 d,.int .i64 e] 25)).alloc (.cells #[.slice none 0 0,.slice none 0 0,.int .i64 0,.int .i64 0,.int .i64 0,.int .i64 0,.int .i64 0] 44)).alloc (.cells #[.slice none 0 0,.slice none 0 0,.int .i64 0,.int .i64 0,.int .i64 0,.int .i64 0,.int .i64 0] 44)).heap.size=w.heap.size+3:=by simp
 rw [eg] at o1 ⊢
 have O1:=Lib.hid o1
 have HC:=Lib.hid hcs
 clear k0 k1 o1 hcs eg
 go_wp2_with fail
 have K1':Kp w (w1.setCell ⟨w.heap.size+1+1,0,none⟩ (.slice (some ⟨w.heap.size+3,0,none⟩) nt nt)):=K1.setCell (by simp <;> omega) _
 refine(toKindS_any _ _ _ m _ (HL.out.keep K1').rk hb2).mono ?_
 rintro e2 w2 ⟨zs,rfl,o2,k2⟩
 have b2:w2.cell? ⟨w.heap.size,2,none⟩=some (.int .i64 a):=k2.cell (by simp [go_sem, *])
 have b3:w2.cell? ⟨w.heap.size,3,none⟩=some (.int .i64 b):=k2.cell (by simp [go_sem, *])
 have b4:w2.cell? ⟨w.heap.size,4,none⟩=some (.int .i64 c):=k2.cell (by simp [go_sem, *])
 have b5:w2.cell? ⟨w.heap.size,5,none⟩=some (.int .i64 d):=k2.cell (by simp [go_sem, *])
 have b6:w2.cell? ⟨w.heap.size,6,none⟩=some (.int .i64 e):=k2.cell (by simp [go_sem, *])
 have L2:Live7 w2 (w.heap.size+1) (.slice none 0 0) (.slice none 0 0) (.int .i64 0) (.int .i64 0) (.int .i64 0) (.int .i64 0) (.int .i64 0):=live7_keep k2 ⟨by simp [go_sem, *],by simp [go_sem, *],by simp [go_sem, *],by simp [go_sem, *],by simp [go_sem, *],by simp [go_sem, *],by simp [go_sem, *]⟩
 have M2:Live7 w2 (w.heap.size+1+1) (.slice (some ⟨w.heap.size+3,0,none⟩) nt nt) (.slice none 0 0) (.int .i64 0) (.int .i64 0) (.int .i64 0) (.int .i64 0) (.int .i64 0):=live7_keep k2 ⟨by simp [go_sem, *],by simp [go_sem, *],by simp [go_sem, *],by simp [go_sem, *],by simp [go_sem, *],by simp [go_sem, *],by simp [go_sem, *]⟩
 have K2:Kp w w2:=K1'.trans k2
 have O2:=Lib.hid (((O1.out.far (b:=w.heap.size+1+1) (by omega) (.slice (some ⟨w.heap.size+3,0,none⟩) nt nt) (j:=0))).keep k2)
 have eg:(w1.setCell ⟨w.heap.size+1+1,0,none⟩ (.slice (some ⟨w.heap.size+3,0,none⟩) nt nt)).heap.size=w1.heap.size:=by simp
 rw [eg] at o2 ⊢
 have z2:w1.heap.size<w2.heap.size:=by
  have:=World.ownsRow.lt o2.row _ rfl
  omega
 have P2:=Lib.hid o2
 have MID:Hid (∀ (j:Nat) (c:Option Addr × Nat) (x k:Nat),cs[j]?=some c→(Value.slice c.1 x c.2).ownBlock=some k→w.heap.size+3<k∧k<w1.heap.size):=Lib.hid fun j c x k hc hk=>by
  have hj:=lt_of_at hc
  have hx:l[j]?=some (l[j]'(by have:=HC.out;have:=HL.out.rt.1;omega)):=List.getElem?_eq_getElem _
  have:=World.ownsRow.lt (O1.out.each j _ c hx hc) k ((ownBlock_len _ _ _ _).trans hk)
  omega
 generalize hg2:w1.heap.size=G2 at *
 clear K1' k2 o2 a1 a2 a3 a4 a5 a6 L1 M1 K1 O1 eg hg2
 go_wp2_with fail
 refine bodyPost_ret (v:=rv (.slice (some ⟨w.heap.size+3,0,none⟩) nt nt) (.slice (some ⟨G2,0,none⟩) nk nk) a b c d e) (by simp [results,Tryz.results65,go_sem, *]) rfl ⟨_,_,cs,ys,zs,rfl,⟨?_,?_,HC.out,HL.out.rt.1,HL.out.rk.1,by omega,z1,by simpa using z2,MID.out⟩,?_⟩
 ·exact(((((((((((((O2.out.far (by omega) _).far (by omega) _).far (by omega) _).far (by omega) _).far (by omega) _).far (by omega) _).far (by omega) _).far (by omega) _).far (by omega) _).far (by omega) _).far (by omega) _).far (by omega) _).far (by omega) _)
 ·exact(((((((((((((P2.out.far (by omega) _).far (by omega) _).far (by omega) _).far (by omega) _).far (by omega) _).far (by omega) _).far (by omega) _).far (by omega) _).far (by omega) _).far (by omega) _).far (by omega) _).far (by omega) _).far (by omega) _)
 ·exact(((((((((((((K2.setCell (by simp <;> omega) _).setCell (by simp <;> omega) _).setCell (by simp <;> omega) _).setCell (by simp <;> omega) _).setCell (by simp <;> omega) _).setCell (by simp <;> omega) _).setCell (by simp <;> omega) _).setCell (by simp <;> omega) _).setCell (by simp <;> omega) _).setCell (by simp <;> omega) _).setCell (by simp <;> omega) _).setCell (by simp <;> omega) _).setCell (by simp <;> omega) _)
end Go.Proofs.YtacgknllagdkoaaGreatDoor
