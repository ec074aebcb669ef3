/-
  The reference's draws of two hexes, of a hex and one beside it, of two hexes and a number; all that was there is as it was.
-/
import Derived.Test.YtejgfjffndjjnaaDoorCuB
import Derived.Test.YtejgfjffndjjnaaDoorStep
import Derived.Deep.Cut
import Derived.Deep.RegionHeld3
import Derived.OwnWalk
namespace Go.Proofs.YtejgfjffndjjnaaDoor
open Go.RowKit

/-- A hex drawn. -/
def HexC (base g K : Nat) (w : World) (e : Ending) (w' : World) : Prop :=
  ∃ q r : Int, e = .returned (hx q r) ∧ (-41 ≤ q ∧ q ≤ 41 ∧ -41 ≤ r ∧ r ≤ 41) ∧ Cu w' base g (K + 6) ∧ w.grownBy w' (some g)
theorem anyHexC (base g K : Nat) (w : World) (h : Cu w base g K) (hK : K ≤ 90000) :
    Calls Tryd.prog 16 #[.pointer (some ⟨g, 0, none⟩)] w (HexC base g K w) := by
  obtain ⟨A, n, c, p, h1, h2, h3, h4, h5, h6⟩ := h
  refine (anyHex_any g A n c p w h1 h2 (by omega) h3 (fun h0 a ha => (h6 h0 a ha).1)).mono ?_
  rintro e w' ⟨q, r, rfl, bd, ⟨p', hp', cu⟩, hg⟩
  exact ⟨q, r, rfl, bd, ⟨A, n, c, p', cu, h2.grown hg (fun h0 a ha => (h6 h0 a ha).1), h3, by omega, h5, h6⟩, hg⟩

set_option maxRecDepth 100000 in
set_option maxHeartbeats 4000000 in
theorem drawTurnHex_any (A : Option Addr) (n c : Nat) (w : World) (hb : RdBy w A n) (hn : n ≤ 9223372036854775807) :
    Calls Tryd.prog 9 #[.slice A n c] w fun e w' => ∃ q r q' r' k : Int, e = .returned (.tuple #[hx q r, hx q' r', .int .i64 k]) ∧ Kp w w' := by
  have hlt := hb.lt
  obtain ⟨g, hg⟩ : ∃ g, g = w.heap.size + 1 + 1 := ⟨_, rfl⟩
  obtain ⟨base, hbase⟩ : ∃ b, b = w.heap.size + 1 + 1 + 1 := ⟨_, rfl⟩
  obtain ⟨W0, hW0⟩ : ∃ W0, W0 = ((w.alloc (.cells #[.int .i64 0, .int .i64 0] 25)).alloc (.cells #[.int .i64 0, .int .i64 0] 25)).alloc (.cells #[.slice A n c, .int .i64 0, .int .u64 0] 39) := ⟨_, rfl⟩
  have k0 : Kp w W0 := by rw [hW0]; exact (((Kp.refl w).alloc _).alloc _).alloc _
  have c0 : Cu W0 base g 0 := by
    refine ⟨A, n, c, 0, ?_, hb.keep k0, hn, by omega, by omega, fun h0 a ha => ⟨by have := hlt h0 a ha; omega, by have := hlt h0 a ha; omega⟩⟩
    rw [hg, hW0]
    exact ⟨0, by omega, by simp [go_sem], ⟨by simp [go_sem], by simp [go_sem]⟩, ⟨by simp [go_sem], by simp [go_sem]⟩⟩
  have la : Live2 W0 w.heap.size (.int .i64 0) (.int .i64 0) := by rw [hW0]; exact ⟨by simp [go_sem], by simp [go_sem]⟩
  have lb : Live2 W0 (w.heap.size + 1) (.int .i64 0) (.int .i64 0) := by rw [hW0]; exact ⟨by simp [go_sem], by simp [go_sem]⟩
  have CH := Lib.hid (fun w K hc (hK : K ≤ 90000) => anyHexC base g K w hc hK)
  unfold HexC at CH
  have C2 := Lib.hid (fun w hc => pickC base g 12 7 w hc (by omega) (by omega) (by omega))
  unfold PickC at C2
  have C3 := Lib.hid (fun w hc => pickC base g 13 20 w hc (by omega) (by omega) (by omega))
  unfold PickC at C3
  have K0 := Lib.hid k0
  have C0 := Lib.hid c0
  have HG := Lib.hid hg
  have hg1 : g ≠ w.heap.size := by omega
  have hg2 : g ≠ w.heap.size + 1 := by omega
  clear hb hlt k0 c0 hbase
  go_enter Tryd.func9, Tryd.ntmps9
  go_wp2_with fail
  rw [← hW0, ← hg]
  clear hW0 hg
  refine (CH.out _ 0 C0.out (by omega)).mono ?_
  rintro e1 w1 ⟨q, r, rfl, b1, cu1, g1⟩
  have la1 := live2_grown g1 (fun h => hg1 h.symm) la
  have lb1 := live2_grown g1 (fun h => hg2 h.symm) lb
  have D1 := Lib.hid cu1
  have K1 : Kp w w1 := K0.out.grown g1 (fun k e => by have := Option.some.inj e; have := HG.out; omega)
  clear cu1 g1 la lb C0 K0
  go_wp2_with fail
  refine (CH.out _ 6 D1.out (by omega)).mono ?_
  rintro e2 w2 ⟨q', r', rfl, b2, cu2, g2⟩
  have la2 := live2_grown g2 (fun h => hg1 h.symm) la1
  have lb2 := live2_grown g2 (fun h => hg2 h.symm) lb1
  have D2 := Lib.hid cu2
  have K2 : Kp w w2 := K1.grown g2 (fun k e => by have := Option.some.inj e; have := HG.out; omega)
  clear cu2 g2 la1 lb1 D1 K1 CH
  go_wp2_with fail
  refine (C2.out _ D2.out).mono ?_
  rintro e3 w3 ⟨x3, rfl, l3, u3, cu3, g3⟩
  have la3 := live2_grown g3 (fun h => hg1 h.symm) la2
  have lb3 := live2_grown g3 (fun h => hg2 h.symm) lb2
  have D3 := Lib.hid cu3
  have K3 : Kp w w3 := K2.grown g3 (fun k e => by have := Option.some.inj e; have := HG.out; omega)
  clear cu3 g3 la2 lb2 D2 K2 C2
  go_wp2_with fail
  refine (C3.out _ D3.out).mono ?_
  rintro e4 w4 ⟨x4, rfl, l4, u4, cu4, g4⟩
  have la4 := live2_grown g4 (fun h => hg1 h.symm) la3
  have lb4 := live2_grown g4 (fun h => hg2 h.symm) lb3
  have K4 : Kp w w4 := K3.grown g4 (fun k e => by have := Option.some.inj e; have := HG.out; omega)
  clear cu4 g4 la3 lb3 D3 K3 C3
  go_wp2_with fail
  refine bodyPost_ret (by simp [results, Tryd.results9, go_sem, *]; rfl) rfl ⟨q, r, q', r', _, rfl, (((K4.setCell (by simp) _).setCell (by simp) _).setCell (by simp) _).setCell (by simp) _⟩

set_option maxRecDepth 100000 in
set_option maxHeartbeats 4000000 in
theorem drawDirectionTo_any (A : Option Addr) (n c : Nat) (w : World) (hb : RdBy w A n) (hn : n ≤ 9223372036854775807) :
    Calls Tryd.prog 5 #[.slice A n c] w fun e w' => ∃ q r q' r' : Int, e = .returned (.tuple #[hx q r, hx q' r']) ∧ Kp w w' := by
  have hlt := hb.lt
  obtain ⟨g, hg⟩ : ∃ g, g = w.heap.size + 1 + 1 := ⟨_, rfl⟩
  obtain ⟨base, hbase⟩ : ∃ b, b = w.heap.size + 1 + 1 + 1 := ⟨_, rfl⟩
  obtain ⟨W0, hW0⟩ : ∃ W0, W0 = ((w.alloc (.cells #[.int .i64 0, .int .i64 0] 25)).alloc (.cells #[.int .i64 0, .int .i64 0] 25)).alloc (.cells #[.slice A n c, .int .i64 0, .int .u64 0] 39) := ⟨_, rfl⟩
  have k0 : Kp w W0 := by rw [hW0]; exact (((Kp.refl w).alloc _).alloc _).alloc _
  have hsz : base = W0.heap.size := by rw [hW0, hbase]; simp
  have c0 : Cu W0 base g 0 := by
    refine ⟨A, n, c, 0, ?_, hb.keep k0, hn, by omega, by omega, fun h0 a ha => ⟨by have := hlt h0 a ha; omega, by have := hlt h0 a ha; omega⟩⟩
    rw [hg, hW0]
    exact ⟨0, by omega, by simp [go_sem], ⟨by simp [go_sem], by simp [go_sem]⟩, ⟨by simp [go_sem], by simp [go_sem]⟩⟩
  have la : Live2 W0 w.heap.size (.int .i64 0) (.int .i64 0) := by rw [hW0]; exact ⟨by simp [go_sem], by simp [go_sem]⟩
  have lb : Live2 W0 (w.heap.size + 1) (.int .i64 0) (.int .i64 0) := by rw [hW0]; exact ⟨by simp [go_sem], by simp [go_sem]⟩
  have CH := Lib.hid (fun w K hc (hK : K ≤ 90000) => anyHexC base g K w hc hK)
  unfold HexC at CH
  have C1 := Lib.hid (fun w hc => oneC base g 6 3 w hc (by omega) (by omega) (by omega))
  unfold OneC at C1
  have C3 := Lib.hid (fun w hc => pickC base g 7 6 w hc (by omega) (by omega) (by omega))
  unfold PickC at C3
  have K0 := Lib.hid k0
  have C0 := Lib.hid c0
  have HG := Lib.hid hg
  have hg1 : g ≠ w.heap.size := by omega
  have hg2 : g ≠ w.heap.size + 1 := by omega
  clear hb hlt k0 c0
  go_enter Tryd.func5, Tryd.ntmps5
  go_wp2_with fail
  rw [← hW0, ← hg]
  clear hW0 hg
  refine (CH.out _ 0 C0.out (by omega)).mono ?_
  rintro e1 w1 ⟨q, r, rfl, b1, cu1, g1⟩
  have la1 := live2_grown g1 (fun h => hg1 h.symm) la
  have lb1 := live2_grown g1 (fun h => hg2 h.symm) lb
  have ka := (Kp.refl w1).alloc (.cells #[.int .i64 q, .int .i64 r] 25)
  have z1 : base ≤ w1.heap.size := by rw [hsz]; exact g1.size
  have D1 := Lib.hid (cu1.keep ka)
  have K1 : Kp w (w1.alloc (.cells #[.int .i64 q, .int .i64 r] 25)) := (K0.out.grown g1 (fun k e => by have := Option.some.inj e; have := HG.out; omega)).trans ka
  have la2 := live2_kp ka la1
  have lb2 := live2_kp ka lb1
  have s2 : (w1.alloc (.cells #[.int .i64 q, .int .i64 r] 25)).cell? ⟨w1.heap.size, 0, none⟩ = some (.int .i64 q) ∧ (w1.alloc (.cells #[.int .i64 q, .int .i64 r] 25)).cell? ⟨w1.heap.size, 1, none⟩ = some (.int .i64 r) := by simp [go_sem]
  clear cu1 g1 la lb C0 K0 la1 lb1 ka
  go_upto_region 3 with fail
  have z2 : w1.heap.size < (w1.alloc (.cells #[.int .i64 q, .int .i64 r] 25)).heap.size := by simp
  obtain ⟨b5, hb5⟩ : ∃ b, b = w1.heap.size := ⟨_, rfl⟩
  rw [← hb5] at s2 z1 z2 ⊢
  generalize w1.alloc (.cells #[.int .i64 q, .int .i64 r] 25) = W1 at *
  have n1 : b5 ≠ w.heap.size := by omega
  have n2 : b5 ≠ w.heap.size + 1 := by omega
  have n3 : b5 ≠ g := by have := HG.out; omega
  have n4 : w.heap.size + 1 ≠ w.heap.size := by omega
  have m1 : w.heap.size ≠ b5 := by omega
  have m2 : w.heap.size + 1 ≠ b5 := by omega
  have m4 : w.heap.size ≠ w.heap.size + 1 := by omega
  clear hbase hsz z1 z2 hb5 w1
  go_wp2_with fail
  refine (C1.out _ D1.out).mono ?_
  rintro e2 w2 ⟨bb, rfl, cu2, g2⟩
  have la3 := live2_grown g2 (fun h => hg1 h.symm) la2
  have lb3 := live2_grown g2 (fun h => hg2 h.symm) lb2
  have s3 : w2.cell? ⟨b5, 0, none⟩ = some (.int .i64 q) ∧ w2.cell? ⟨b5, 1, none⟩ = some (.int .i64 r) := ⟨g2.cell s2.1 (fun e => n3 (Option.some.inj e)), g2.cell s2.2 (fun e => n3 (Option.some.inj e))⟩
  have D2 := Lib.hid cu2
  have K2 : Kp w w2 := K1.grown g2 (fun k e => by have := Option.some.inj e; have := HG.out; omega)
  clear cu2 g2 la2 lb2 s2 D1 K1 C1
  have kd := (Kp.refl w2).drew
  have D2d := Lib.hid (D2.out.keep kd)
  have lad := live2_kp kd la3
  have lbd := live2_kp kd lb3
  have sd := kd.two s3
  have K2d := K2.trans kd
  clear D2 K2 kd
  cases bb
  · go_wp2_with fail
    go_region_held3 (fun w' => w'.cell? ⟨b5, 0, none⟩ = some (.int .i64 q) ∧ w'.cell? ⟨b5, 1, none⟩ = some (.int .i64 r)) (first | assumption | go_keep)
      (first
        | (go_at_call 19; refine (C3.out _ D2d.out).mono ?_; rintro e3 w3 ⟨d, rfl, d0, d1, cu3, g3⟩; have la4 := live2_grown g3 (fun h => hg1 h.symm) lad; have lb4 := live2_grown g3 (fun h => hg2 h.symm) lbd; have s4 : w3.cell? ⟨b5, 0, none⟩ = some (.int .i64 q) ∧ w3.cell? ⟨b5, 1, none⟩ = some (.int .i64 r) := ⟨g3.cell sd.1 (fun e => n3 (Option.some.inj e)), g3.cell sd.2 (fun e => n3 (Option.some.inj e))⟩; have K3 : Kp w w3 := K2d.grown g3 (fun k e => by have := Option.some.inj e; have := HG.out; omega); clear cu3 g3 lad lbd sd K2d)
        | (go_at_call 18; refine (hStep_any _ _ _ _ (by omega) (by omega) (by omega) (by omega) (by omega) (by omega)).mono ?_; rintro e4 w4 ⟨rfl, k4⟩; have la5 := live2_kp k4 la4; have lb5 := live2_kp k4 lb4; have s5 := k4.two s4; have K4 := K3.trans k4; clear k4 la4 lb4 s4 K3))
    go_wp2_with fail
    exact bodyPost_ret (v := .tuple #[hx q r, hx (q + dirQ d) (r + dirR d)]) (by simp [results, Tryd.results5, go_sem, *]) rfl ⟨q, r, _, _, rfl, (((K4.setCell (by simp) _).setCell (by simp) _).setCell (by simp) _).setCell (by simp) _⟩
  · go_wp2_with fail
    go_region_held3 (fun w' => w'.cell? ⟨b5, 0, none⟩ = some (.int .i64 q) ∧ w'.cell? ⟨b5, 1, none⟩ = some (.int .i64 r)) (first | assumption | go_keep)
      (first
        | (go_at_call 16; refine (CH.out _ 7 D2d.out (by omega)).mono ?_; rintro e3 w3 ⟨q', r', rfl, b2, cu3, g3⟩; have la4 := live2_grown g3 (fun h => hg1 h.symm) lad; have lb4 := live2_grown g3 (fun h => hg2 h.symm) lbd; have s4 : w3.cell? ⟨b5, 0, none⟩ = some (.int .i64 q) ∧ w3.cell? ⟨b5, 1, none⟩ = some (.int .i64 r) := ⟨g3.cell sd.1 (fun e => n3 (Option.some.inj e)), g3.cell sd.2 (fun e => n3 (Option.some.inj e))⟩; have K3 : Kp w w3 := K2d.grown g3 (fun k e => by have := Option.some.inj e; have := HG.out; omega); clear cu3 g3 lad lbd sd K2d))
    go_wp2_with fail
    exact bodyPost_ret (v := .tuple #[hx q r, hx q' r']) (by simp [results, Tryd.results5, go_sem, *]) rfl ⟨q, r, _, _, rfl, (((K3.setCell (by simp) _).setCell (by simp) _).setCell (by simp) _).setCell (by simp) _⟩
end Go.Proofs.YtejgfjffndjjnaaDoor
