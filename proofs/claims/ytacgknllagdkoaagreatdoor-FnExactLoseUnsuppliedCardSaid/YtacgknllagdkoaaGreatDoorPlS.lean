/-
 PlaceUnit of both sides: a new state. Nothing that was there is changed. The named variables hold what the program's text lays.
-/
import Derived.Test.YtacgknllagdkoaaGreatDoorCpU
import Derived.Test.YtacgknllagdkoaaGreatDoorQa
import Derived.Test.YtacgknllagdkoaaGreatDoorQp
import Derived.Test.YtacgknllagdkoaaGreatDoorQt
import Derived.Test.YtacgknllagdkoaaGreatDoorQa
namespace Go.Proofs.YtacgknllagdkoaaGreatDoor
open Go.RowKit
/-- A new state and true, or the zero state and false. -/
def StPost (ok:Bool) (T Z:Int) (l:List Uni) (w:World) (e:Ending) (w':World):Prop :=
 ∃ v,e=.returned (.tuple #[sv (vI ok T) (vI ok Z) v,.bool ok])∧OwnU w' w.heap.size v (if ok=true then l else [])∧Kp w w'
theorem StPost.no {T Z:Int} {l:List Uni} {w w':World} (hk:Kp w w'):StPost false T Z l w (.returned (.tuple #[sv 0 0 (.slice none 0 0),.bool false])) w':=⟨_,rfl,OwnU.nil _ _,hk⟩
/-- The list with a unit placed. -/
def plU (us:List Uni) (n:Nat) (i:Int):List Uni:=match us[n]? with
 | some x=>us.set n ⟨x.s,x.k,i,x.t⟩
 | none=>us
theorem plU_at {us:List Uni} {n:Nat} {x:Uni} {i:Int} (h:us[n]?=some x):plU us n i=us.set n ⟨x.s,x.k,i,x.t⟩:=by unfold plU;rw [h]
theorem plU_len (us:List Uni) (n:Nat) (i:Int):(plU us n i).length=us.length:=by
 unfold plU
 split
 ·exact List.length_set
 ·rfl
theorem cellsU_place:∀ (us:List Uni) (n:Nat) (x:Uni) (i:Int),us[n]?=some x→(cellsU us).set (n*4+2) (.int .i64 i)=cellsU (us.set n ⟨x.s,x.k,i,x.t⟩)
 | [],_,_,_,h=>by simp at h
 | y :: us,0,x,i,h=>by
  simp only [List.getElem?_cons_zero,Option.some.injEq] at h
  subst h
  rfl
 | y :: us,n+1,x,i,h=>by
  have:=cellsU_place us n x i (by simpa using h)
  have e1:(n+1)*4+2=n*4+2+1+1+1+1:=by omega
  rw [e1,List.set_cons_succ]
  simp only [cellsU,List.set_cons_succ,this]
theorem OwnU.block_at {w:World} {base N c:Nat} {A:Option Addr} {l:List Uni} (h:OwnU w base (.slice A N c) l) (h0:0<l.length):∃ G,A=some ⟨G,0,none⟩∧base≤G∧N=l.length:=by
 rcases h.2 with ⟨_,hn⟩ | ⟨G,cap,cur,hv,hb,_⟩
 ·omega
 ·simp only [Value.slice.injEq] at hv
  obtain⟨rfl,rfl,rfl⟩:=hv
  exact⟨G,rfl,hb,rfl⟩
theorem OwnU.row {w:World} {base N c:Nat} {A:Option Addr} {l:List Uni} (h:OwnU w base (.slice A N c) l) (hN:l.length=N):w.ownsRow base 152 4 (.slice A N c) N (cellsU l):=by
 unfold OwnU at h
 rw [hN] at h
 exact h
theorem OwnU.place {w:World} {base G N c n:Nat} {us:List Uni} {x:Uni} {i:Int} (h:OwnU w base (.slice (some ⟨G,0,none⟩) N c) us) (hx:us[n]?=some x):OwnU (w.setCell ⟨G,n*4+2,none⟩ (.int .i64 i)) base (.slice (some ⟨G,0,none⟩) N c) (plU us n i):=by
 have hN:N=us.length:=by
  obtain⟨A,c',e⟩:=h.slice
  simp only [Value.slice.injEq] at e
  exact e.2.1
 subst hN
 have h2:=(World.ownsRow.stored h (n*4+2) (.int .i64 i)).1
 rw [cellsU_place us n x i hx] at h2
 unfold OwnU
 rw [plU_len,plU_at hx]
 exact h2
end Go.Proofs.YtacgknllagdkoaaGreatDoor
