/-
  What every law on maps needs: the argument's lists, the copies of the map, the cells of the two boxes.
-/
import Derived.Test.YtcdfbcmfpeceeaaDoorToMap
import Derived.Test.YtcdfbcmfpeceeaaDoorTab
import Derived.Test.YtcdfbcmfpeceeaaDoorIsMapI
import Derived.Test.YtcdfbcmfpeceeaaDoorRdS
import Derived.Lib.SmallJoins
import Derived.Deep.Fields
namespace Go.Proofs.YtcdfbcmfpeceeaaDoor
open Go.ChangeShapes Go.WideShapes Go.ChangeAt Go.RowKit Go.Joins

/-- What an argument's three lists are: slices that read as lists, of Go's own lengths and numbers. -/
structure Reads (w : World) (t r d : Value) (lt lr ld : List Int) : Prop where
  rt : RdI w t lt
  rr : RdI w r lr
  rd : RdI w d ld
  bt : lt.length ≤ 9223372036854775807
  br : lr.length ≤ 9223372036854775807
  bd : ld.length ≤ 9223372036854775807
  it : ∀ x ∈ lt, isI64 x
  ir : ∀ x ∈ lr, isI64 x
  id : ∀ x ∈ ld, isI64 x
theorem Reads.lists {w : World} {t r d : Value} {lt lr ld : List Int} (h : Reads w t r d lt lr ld) (hb : lt.length + lr.length + ld.length ≤ 1048576) : Lists w t r d lt lr ld :=
  ⟨h.rt, h.rr, h.rd, by omega, by omega, by omega, h.it, h.ir, h.id⟩
theorem Own3.lists {w w0 : World} {base : Nat} {t r d t0 r0 d0 : Value} {lt lr ld : List Int} (o : Own3 w base t r d lt lr ld) (h : Lists w0 t0 r0 d0 lt lr ld) : Lists w t r d lt lr ld :=
  ⟨o.ot.rd, o.or.rd, o.od.rd, h.bt, h.br, h.bd, h.it, h.ir, h.id⟩

theorem toMap_sl (W H : Int) (t r d : Value) (lt lr ld : List Int) (nt nr nd : Nat) (w : World) (hL : Lists w t r d lt lr ld) (h1 : lt.length = nt) (h2 : lr.length = nr) (h3 : ld.length = nd) :
    Calls Tryd.prog 30 #[mp W H t r d] w fun e w' => ∃ (A1 : Option Addr) (c1 : Nat) (A2 : Option Addr) (c2 : Nat) (A3 : Option Addr) (c3 : Nat), e = .returned (mp W H (.slice A1 nt c1) (.slice A2 nr c2) (.slice A3 nd c3)) ∧
      Own3 w' w.heap.size (.slice A1 nt c1) (.slice A2 nr c2) (.slice A3 nd c3) lt lr ld ∧ Kp w w' :=
  (toMap_any W H t r d lt lr ld w hL).mono fun e w' ⟨t', r', d', he, ho, hk⟩ => by
    obtain ⟨A1, c1, rfl⟩ := ho.ot.slice
    obtain ⟨A2, c2, rfl⟩ := ho.or.slice
    obtain ⟨A3, c3, rfl⟩ := ho.od.slice
    subst h1 h2 h3
    exact ⟨A1, c1, A2, c2, A3, c3, he, ho, hk⟩

theorem keep10 {W0 w w1 : World} {b b' : Nat} {v0 v1 v2 v3 v4 u0 u1 u2 u3 u4 : Value} (k : Kp w w1)
    (h : (w.cell? ⟨b, 0, none⟩ = some v0 ∧ w.cell? ⟨b, 1, none⟩ = some v1 ∧ w.cell? ⟨b, 2, none⟩ = some v2 ∧ w.cell? ⟨b, 3, none⟩ = some v3 ∧ w.cell? ⟨b, 4, none⟩ = some v4 ∧ Kp W0 w) ∧
      w.cell? ⟨b', 0, none⟩ = some u0 ∧ w.cell? ⟨b', 1, none⟩ = some u1 ∧ w.cell? ⟨b', 2, none⟩ = some u2 ∧ w.cell? ⟨b', 3, none⟩ = some u3 ∧ w.cell? ⟨b', 4, none⟩ = some u4 ∧ Kp W0 w) :
    (w1.cell? ⟨b, 0, none⟩ = some v0 ∧ w1.cell? ⟨b, 1, none⟩ = some v1 ∧ w1.cell? ⟨b, 2, none⟩ = some v2 ∧ w1.cell? ⟨b, 3, none⟩ = some v3 ∧ w1.cell? ⟨b, 4, none⟩ = some v4 ∧ Kp W0 w1) ∧
      w1.cell? ⟨b', 0, none⟩ = some u0 ∧ w1.cell? ⟨b', 1, none⟩ = some u1 ∧ w1.cell? ⟨b', 2, none⟩ = some u2 ∧ w1.cell? ⟨b', 3, none⟩ = some u3 ∧ w1.cell? ⟨b', 4, none⟩ = some u4 ∧ Kp W0 w1 :=
  ⟨keep5 k h.1, keep5 k h.2⟩
theorem drew10 {W0 w : World} {b b' : Nat} {v0 v1 v2 v3 v4 u0 u1 u2 u3 u4 : Value}
    (h : (w.cell? ⟨b, 0, none⟩ = some v0 ∧ w.cell? ⟨b, 1, none⟩ = some v1 ∧ w.cell? ⟨b, 2, none⟩ = some v2 ∧ w.cell? ⟨b, 3, none⟩ = some v3 ∧ w.cell? ⟨b, 4, none⟩ = some v4 ∧ Kp W0 w) ∧
      w.cell? ⟨b', 0, none⟩ = some u0 ∧ w.cell? ⟨b', 1, none⟩ = some u1 ∧ w.cell? ⟨b', 2, none⟩ = some u2 ∧ w.cell? ⟨b', 3, none⟩ = some u3 ∧ w.cell? ⟨b', 4, none⟩ = some u4 ∧ Kp W0 w) :
    (w.drew.cell? ⟨b, 0, none⟩ = some v0 ∧ w.drew.cell? ⟨b, 1, none⟩ = some v1 ∧ w.drew.cell? ⟨b, 2, none⟩ = some v2 ∧ w.drew.cell? ⟨b, 3, none⟩ = some v3 ∧ w.drew.cell? ⟨b, 4, none⟩ = some v4 ∧ Kp W0 w.drew) ∧
      w.drew.cell? ⟨b', 0, none⟩ = some u0 ∧ w.drew.cell? ⟨b', 1, none⟩ = some u1 ∧ w.drew.cell? ⟨b', 2, none⟩ = some u2 ∧ w.drew.cell? ⟨b', 3, none⟩ = some u3 ∧ w.drew.cell? ⟨b', 4, none⟩ = some u4 ∧ Kp W0 w.drew :=
  ⟨drew5 h.1, drew5 h.2⟩
/-- A box for a second map behind the first. -/
theorem box10 {W0 w : World} {b : Nat} {v0 v1 v2 v3 v4 : Value} (u0 u1 u2 u3 u4 : Value) (T : TypeId)
    (h : w.cell? ⟨b, 0, none⟩ = some v0 ∧ w.cell? ⟨b, 1, none⟩ = some v1 ∧ w.cell? ⟨b, 2, none⟩ = some v2 ∧ w.cell? ⟨b, 3, none⟩ = some v3 ∧ w.cell? ⟨b, 4, none⟩ = some v4 ∧ Kp W0 w) :
    ((w.alloc (.cells #[u0, u1, u2, u3, u4] T)).cell? ⟨b, 0, none⟩ = some v0 ∧ (w.alloc (.cells #[u0, u1, u2, u3, u4] T)).cell? ⟨b, 1, none⟩ = some v1 ∧ (w.alloc (.cells #[u0, u1, u2, u3, u4] T)).cell? ⟨b, 2, none⟩ = some v2 ∧ (w.alloc (.cells #[u0, u1, u2, u3, u4] T)).cell? ⟨b, 3, none⟩ = some v3 ∧ (w.alloc (.cells #[u0, u1, u2, u3, u4] T)).cell? ⟨b, 4, none⟩ = some v4 ∧ Kp W0 (w.alloc (.cells #[u0, u1, u2, u3, u4] T))) ∧
      (w.alloc (.cells #[u0, u1, u2, u3, u4] T)).cell? ⟨w.heap.size, 0, none⟩ = some u0 ∧ (w.alloc (.cells #[u0, u1, u2, u3, u4] T)).cell? ⟨w.heap.size, 1, none⟩ = some u1 ∧ (w.alloc (.cells #[u0, u1, u2, u3, u4] T)).cell? ⟨w.heap.size, 2, none⟩ = some u2 ∧ (w.alloc (.cells #[u0, u1, u2, u3, u4] T)).cell? ⟨w.heap.size, 3, none⟩ = some u3 ∧ (w.alloc (.cells #[u0, u1, u2, u3, u4] T)).cell? ⟨w.heap.size, 4, none⟩ = some u4 ∧ Kp W0 (w.alloc (.cells #[u0, u1, u2, u3, u4] T)) := by
  obtain ⟨n0, n1, n2, n3, n4, n5⟩ := new5 w u0 u1 u2 u3 u4 T
  exact ⟨keep5 n5 h, n0, n1, n2, n3, n4, h.2.2.2.2.2.trans n5⟩

theorem szMap_s (W H : Int) (At Ar Ad : Option Addr) (nt ct nr cr nd cd : Nat) (S0 : Int) (w : World) (h1 : nt ≤ 9223372036854775807) (h2 : nr ≤ 9223372036854775807) (h3 : nd ≤ 9223372036854775807) (hs : szTot nt nr nd = S0) :
    Calls Tryd.prog 28 #[mp W H (.slice At nt ct) (.slice Ar nr cr) (.slice Ad nd cd), .int .i64 1048576] w fun e w' => e = .returned (.int .i64 S0) ∧ Kp w w' := by
  rw [← hs]
  exact szMap_any W H At Ar Ad nt ct nr cr nd cd w h1 h2 h3

theorem cellsMap : Tryd.prog.cellsOf 42 = 5 := by kernel_rfl
theorem five {α : Type} {l : List α} (h : l.length = 5) {a b c d e : α} (h0 : l[0]? = some a) (h1 : l[1]? = some b) (h2 : l[2]? = some c) (h3 : l[3]? = some d) (h4 : l[4]? = some e) : l = [a, b, c, d, e] := by
  match l, h with
  | [x0, x1, x2, x3, x4], _ => simp_all

set_option maxRecDepth 100000 in
/-- An argument of type Map: two numbers and three lists. -/
theorem open_map5 {H : Type} {enc : TypeId × Value → H} {W : World} {base : Nat} {v : Value} {d : DataW H} {p : List MemPlace}
    (hv : Value.okWide Tryd.prog W .any base 42 v) (h : DataW.Trod enc Tryd.prog W 0 (fun _ => true) true 42 v d p) :
    ∃ (wd ht : Int) (t r e : Value) (lt lr ld : List Int), v = mp wd ht t r e ∧ Reads W t r e lt lr ld := by
  obtain ⟨cs, n, rfl, hl, hf⟩ := open_fields Tryd.underlying42 (by kernel_rfl) cellsMap rfl hv h
  obtain ⟨c0, y0, q0, h0⟩ := hf 0 _ rfl
  obtain ⟨c1, y1, q1, h1⟩ := hf 1 _ rfl
  obtain ⟨c2, y2, q2, h2⟩ := hf 2 _ rfl
  obtain ⟨c3, y3, q3, h3⟩ := hf 3 _ rfl
  obtain ⟨c4, y4, q4, h4⟩ := hf 4 _ rfl
  obtain rfl := five hl q0 q1 q2 q3 q4
  obtain ⟨a, e0, rfl, wa⟩ := DataW.trod_int Tryd.underlying3 h0
  obtain ⟨b, e1, rfl, wb⟩ := DataW.trod_int Tryd.underlying3 h1
  simp only [List.cons.injEq, and_true] at e0 e1
  subst e0 e1
  obtain ⟨lt, r1, r2, r3⟩ := rdB_of_trod h2
  obtain ⟨lr, s1, s2, s3⟩ := rdB_of_trod h3
  obtain ⟨ld, t1, t2, t3⟩ := rdB_of_trod h4
  exact ⟨a, b, c2, c3, c4, lt, lr, ld, rfl, ⟨r1, s1, t1, r2, s2, t2, r3, s3, t3⟩⟩

end Go.Proofs.YtcdfbcmfpeceeaaDoor
