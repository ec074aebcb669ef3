/-
  Texts of this seat in one module: SlR.
-/
import Derived.Test.YtbohefollbmhkaaGreatDoorQk

/-
  SealOrders and OpensTo of both sides; lists of openings. Nothing that was there is changed. The named variables hold what the program's text lays.
-/
namespace Go.Proofs.YtbohefollbmhkaaGreatDoor
open Go.RowKit

def sorB (t s : Int) (o : Opn) : Bool := spB 0 30 t && (spB 0 1 s && opnB o)
def otB (e : Sea) (o : Opn) : Bool := seaB e && opnB o
def sorV (B : Bool) (t s x : Int) : Value := .tuple #[slx (vI B t) (vI B s) (vI B x), .bool B]
def noP (l : List Sea) (o : List Opn) (k : Nat) : Bool := match l[k]?, o[k]? with
  | some e, some p => !opnsB e p
  | _, _ => false
theorem noP_at {l : List Sea} {o : List Opn} {k : Nat} {e : Sea} {p : Opn} (he : l[k]? = some e) (hp : o[k]? = some p) : noP l o k = !opnsB e p := by simp [noP, he, hp]
def fboB (l : List Sea) (o : List Opn) : Bool := decide (l.length = o.length) && (roundB seaB l && roundB opnB o)
set_option maxRecDepth 100000 in
set_option maxHeartbeats 4000000 in
theorem sealOrdersP_any (t s n : Int) (x : ByteArray) (w : World) (hg0 : SpanAt w 0 0 30) (hg1 : SpanAt w 1 0 1) (hg2 : SpanAt w 2 0 4611686016279904236) (hg3 : SpanAt w 3 0 150) (hT : Lib.Utf8Tabs 6 7 w) :
    Calls Tryz.prog 6 #[.int .i64 t, .int .i64 s, opx n x] w fun e w' => e = .returned (sorV (sorB t s ⟨n, x⟩) t s (selN t s n x)) ∧ Kp w w' := by
  have HT := Lib.hid hT
  clear hT
  have C0 := Lib.hid (fun w => has_any 0 30 t w)
  have C1 := Lib.hid (fun w => has_any 0 1 s w)
  have C2 := Lib.hid (fun (w : World) (h : SpanAt w 2 0 4611686016279904236 ∧ SpanAt w 3 0 150) => isValidP_any n x w h.1 h.2)
  cases h0 : spB 0 30 t
  · rw [h0] at C0
    have hO : sorB t s ⟨n, x⟩ = false := by first | (unfold sorB; rw [h0]; rfl) | simp [sorB, h0]
    rw [hO]
    have K0 : Kp w ((w.alloc (.cells #[.int .i64 n, .string x] 25)).alloc (.cells #[.int .i64 0, .int .i64 0, .int .i64 0] 29)) := ((Kp.refl _).alloc _).alloc _
    have S0 : OpnAt ((w.alloc (.cells #[.int .i64 n, .string x] 25)).alloc (.cells #[.int .i64 0, .int .i64 0, .int .i64 0] 29)) w.heap.size 0 ⟨n, x⟩ := ⟨by simp [go_sem], by simp [go_sem]⟩
    have T0 : Bx3 ((w.alloc (.cells #[.int .i64 n, .string x] 25)).alloc (.cells #[.int .i64 0, .int .i64 0, .int .i64 0] 29)) (w.heap.size + 1) 0 0 0 := by
        have := Bx3.new (w.alloc (.cells #[.int .i64 n, .string x] 25)) 0 0 0 29
        simpa using this
    go_enter Tryz.func6, Tryz.ntmps6
    go_upto_region 1 with fail
    generalize ((w.alloc (.cells #[.int .i64 n, .string x] 25)).alloc (.cells #[.int .i64 0, .int .i64 0, .int .i64 0] 29)) = W0 at *
    obtain ⟨b0, c0⟩ := K0.two hg0
    go_wp2_with fail
    refine (C0.out _).mono ?_
    rintro e1 w1 ⟨rfl, k1⟩
    have K1 := K0.trans k1
    have T1 := T0.keep k1
    have S1 := S0.keep k1
    obtain ⟨⟨c3, c4, c5⟩, f0, f1, f2⟩ := T1
    go_wp2_with fail
    exact bodyPost_ret (v := .tuple #[slx 0 0 0, .bool false]) (by simp [results, Tryz.results6, go_sem, *]) rfl ⟨rfl, ((K1.setCell (by simp) _).setCell (by simp) _).setCell (by simp) _⟩
  · rw [h0] at C0
    cases h1 : spB 0 1 s
    · rw [h1] at C1
      have hO : sorB t s ⟨n, x⟩ = false := by first | (unfold sorB; rw [h0, h1]; rfl) | simp [sorB, h0, h1]
      rw [hO]
      have K0 : Kp w ((w.alloc (.cells #[.int .i64 n, .string x] 25)).alloc (.cells #[.int .i64 0, .int .i64 0, .int .i64 0] 29)) := ((Kp.refl _).alloc _).alloc _
      have S0 : OpnAt ((w.alloc (.cells #[.int .i64 n, .string x] 25)).alloc (.cells #[.int .i64 0, .int .i64 0, .int .i64 0] 29)) w.heap.size 0 ⟨n, x⟩ := ⟨by simp [go_sem], by simp [go_sem]⟩
      have T0 : Bx3 ((w.alloc (.cells #[.int .i64 n, .string x] 25)).alloc (.cells #[.int .i64 0, .int .i64 0, .int .i64 0] 29)) (w.heap.size + 1) 0 0 0 := by
          have := Bx3.new (w.alloc (.cells #[.int .i64 n, .string x] 25)) 0 0 0 29
          simpa using this
      go_enter Tryz.func6, Tryz.ntmps6
      go_upto_region 1 with fail
      generalize ((w.alloc (.cells #[.int .i64 n, .string x] 25)).alloc (.cells #[.int .i64 0, .int .i64 0, .int .i64 0] 29)) = W0 at *
      obtain ⟨b0, c0⟩ := K0.two hg0
      go_wp2_with fail
      refine (C0.out _).mono ?_
      rintro e1 w1 ⟨rfl, k1⟩
      have K1 := K0.trans k1
      have T1 := T0.keep k1
      have S1 := S0.keep k1
      obtain ⟨b1, c1⟩ := K1.two hg1
      go_wp2_with fail
      refine (C1.out _).mono ?_
      rintro e2 w2 ⟨rfl, k2⟩
      have K2 := K1.trans k2
      have T2 := T1.keep k2
      have S2 := S1.keep k2
      obtain ⟨⟨c3, c4, c5⟩, f0, f1, f2⟩ := T2
      go_wp2_with fail
      exact bodyPost_ret (v := .tuple #[slx 0 0 0, .bool false]) (by simp [results, Tryz.results6, go_sem, *]) rfl ⟨rfl, ((K2.setCell (by simp) _).setCell (by simp) _).setCell (by simp) _⟩
    · rw [h1] at C1
      cases h2 : opnB ⟨n, x⟩
      · rw [h2] at C2
        have hO : sorB t s ⟨n, x⟩ = false := by first | (unfold sorB; rw [h0, h1, h2]; rfl) | simp [sorB, h0, h1, h2]
        rw [hO]
        have K0 : Kp w ((w.alloc (.cells #[.int .i64 n, .string x] 25)).alloc (.cells #[.int .i64 0, .int .i64 0, .int .i64 0] 29)) := ((Kp.refl _).alloc _).alloc _
        have S0 : OpnAt ((w.alloc (.cells #[.int .i64 n, .string x] 25)).alloc (.cells #[.int .i64 0, .int .i64 0, .int .i64 0] 29)) w.heap.size 0 ⟨n, x⟩ := ⟨by simp [go_sem], by simp [go_sem]⟩
        have T0 : Bx3 ((w.alloc (.cells #[.int .i64 n, .string x] 25)).alloc (.cells #[.int .i64 0, .int .i64 0, .int .i64 0] 29)) (w.heap.size + 1) 0 0 0 := by
            have := Bx3.new (w.alloc (.cells #[.int .i64 n, .string x] 25)) 0 0 0 29
            simpa using this
        go_enter Tryz.func6, Tryz.ntmps6
        go_upto_region 1 with fail
        generalize ((w.alloc (.cells #[.int .i64 n, .string x] 25)).alloc (.cells #[.int .i64 0, .int .i64 0, .int .i64 0] 29)) = W0 at *
        obtain ⟨b0, c0⟩ := K0.two hg0
        go_wp2_with fail
        refine (C0.out _).mono ?_
        rintro e1 w1 ⟨rfl, k1⟩
        have K1 := K0.trans k1
        have T1 := T0.keep k1
        have S1 := S0.keep k1
        obtain ⟨b1, c1⟩ := K1.two hg1
        go_wp2_with fail
        refine (C1.out _).mono ?_
        rintro e2 w2 ⟨rfl, k2⟩
        have K2 := K1.trans k2
        have T2 := T1.keep k2
        have S2 := S1.keep k2
        obtain ⟨p0, p1⟩ := id S2
        simp only [Nat.zero_add] at p0 p1
        go_wp2_with fail
        refine (C2.out _ ⟨K2.two hg2, K2.two hg3⟩).mono ?_
        rintro e3 w3 ⟨rfl, k3⟩
        have K3 := K2.trans k3
        have T3 := T2.keep k3
        have S3 := S2.keep k3
        obtain ⟨⟨c3, c4, c5⟩, f0, f1, f2⟩ := T3
        go_wp2_with fail
        exact bodyPost_ret (v := .tuple #[slx 0 0 0, .bool false]) (by simp [results, Tryz.results6, go_sem, *]) rfl ⟨rfl, ((K3.setCell (by simp) _).setCell (by simp) _).setCell (by simp) _⟩
      · have hO : sorB t s ⟨n, x⟩ = true := by first | (unfold sorB; rw [h0, h1, h2]; rfl) | simp [sorB, h0, h1, h2]
        rw [hO]
        clear hO
        rw [h2] at C2
        have CQ := Lib.hid (fun w hT => sealOfP_any t s n x w (opnB_size h2) hT)
        generalize selN t s n x = X at *
        have K0 : Kp w ((w.alloc (.cells #[.int .i64 n, .string x] 25)).alloc (.cells #[.int .i64 0, .int .i64 0, .int .i64 0] 29)) := ((Kp.refl _).alloc _).alloc _
        have S0 : OpnAt ((w.alloc (.cells #[.int .i64 n, .string x] 25)).alloc (.cells #[.int .i64 0, .int .i64 0, .int .i64 0] 29)) w.heap.size 0 ⟨n, x⟩ := ⟨by simp [go_sem], by simp [go_sem]⟩
        have T0 : Bx3 ((w.alloc (.cells #[.int .i64 n, .string x] 25)).alloc (.cells #[.int .i64 0, .int .i64 0, .int .i64 0] 29)) (w.heap.size + 1) 0 0 0 := by
            have := Bx3.new (w.alloc (.cells #[.int .i64 n, .string x] 25)) 0 0 0 29
            simpa using this
        go_enter Tryz.func6, Tryz.ntmps6
        go_upto_region 1 with fail
        generalize ((w.alloc (.cells #[.int .i64 n, .string x] 25)).alloc (.cells #[.int .i64 0, .int .i64 0, .int .i64 0] 29)) = W0 at *
        obtain ⟨b0, c0⟩ := K0.two hg0
        go_wp2_with fail
        refine (C0.out _).mono ?_
        rintro e1 w1 ⟨rfl, k1⟩
        have K1 := K0.trans k1
        have T1 := T0.keep k1
        have S1 := S0.keep k1
        obtain ⟨b1, c1⟩ := K1.two hg1
        go_wp2_with fail
        refine (C1.out _).mono ?_
        rintro e2 w2 ⟨rfl, k2⟩
        have K2 := K1.trans k2
        have T2 := T1.keep k2
        have S2 := S1.keep k2
        obtain ⟨p0, p1⟩ := id S2
        simp only [Nat.zero_add] at p0 p1
        go_wp2_with fail
        refine (C2.out _ ⟨K2.two hg2, K2.two hg3⟩).mono ?_
        rintro e3 w3 ⟨rfl, k3⟩
        have K3 := K2.trans k3
        have T3 := T2.keep k3
        have S3 := S2.keep k3
        obtain ⟨q0, q1⟩ := S3
        simp only [Nat.zero_add] at q0 q1
        go_wp2_with fail
        refine (CQ.out _ (by first | exact Lib.Utf8Tabs_below HT.out K3 | exact Utf8Tabs_below HT.out K3)).mono ?_
        rintro e9 w9 ⟨rfl, k9⟩
        have K9 := K3.trans k9
        obtain ⟨⟨c3, c4, c5⟩, f0, f1, f2⟩ := T3.keep k9
        go_wp2_with fail
        exact bodyPost_ret (v := .tuple #[slx t s X, .bool true]) (by simp [results, Tryz.results6, go_sem, *]) rfl ⟨rfl, ((K9.setCell (by simp) _).setCell (by simp) _).setCell (by simp) _⟩

set_option maxRecDepth 100000 in
set_option maxHeartbeats 4000000 in
theorem sealOrdersS_any (t s n : Int) (x : ByteArray) (w : World)  :
    Calls Tryz.prog 7 #[.int .i64 t, .int .i64 s, opx n x] w fun e w' => e = .returned (sorV (sorB t s ⟨n, x⟩) t s (selN t s n x)) ∧ Kp w w' := by
  have C0 := Lib.hid (fun w => l1In_sp t 0 30 w)
  have C1 := Lib.hid (fun w => l1In_sp s 0 1 w)
  have C2 := Lib.hid (fun w => eOpening_any n x w)
  cases h0 : spB 0 30 t
  · rw [h0] at C0
    have hO : sorB t s ⟨n, x⟩ = false := by first | (unfold sorB; rw [h0]; rfl) | simp [sorB, h0]
    rw [hO]
    have K0 : Kp w ((w.alloc (.cells #[.int .i64 n, .string x] 25)).alloc (.cells #[.int .i64 0, .int .i64 0, .int .i64 0] 29)) := ((Kp.refl _).alloc _).alloc _
    have S0 : OpnAt ((w.alloc (.cells #[.int .i64 n, .string x] 25)).alloc (.cells #[.int .i64 0, .int .i64 0, .int .i64 0] 29)) w.heap.size 0 ⟨n, x⟩ := ⟨by simp [go_sem], by simp [go_sem]⟩
    have T0 : Bx3 ((w.alloc (.cells #[.int .i64 n, .string x] 25)).alloc (.cells #[.int .i64 0, .int .i64 0, .int .i64 0] 29)) (w.heap.size + 1) 0 0 0 := by
        have := Bx3.new (w.alloc (.cells #[.int .i64 n, .string x] 25)) 0 0 0 29
        simpa using this
    go_enter Tryz.func7, Tryz.ntmps7
    go_upto_region 1 with fail
    generalize ((w.alloc (.cells #[.int .i64 n, .string x] 25)).alloc (.cells #[.int .i64 0, .int .i64 0, .int .i64 0] 29)) = W0 at *
    go_wp2_with fail
    refine (C0.out _).mono ?_
    rintro e1 w1 ⟨rfl, hw1⟩
    have K1 : Kp w w1 := hw1 ▸ K0
    have T1 : Bx3 w1 (w.heap.size + 1) 0 0 0 := hw1 ▸ T0
    have S1 : OpnAt w1 w.heap.size 0 ⟨n, x⟩ := hw1 ▸ S0
    clear hw1
    obtain ⟨⟨c3, c4, c5⟩, f0, f1, f2⟩ := T1
    go_wp2_with fail
    exact bodyPost_ret (v := .tuple #[slx 0 0 0, .bool false]) (by simp [results, Tryz.results7, go_sem, *]) rfl ⟨rfl, ((K1.setCell (by simp) _).setCell (by simp) _).setCell (by simp) _⟩
  · rw [h0] at C0
    cases h1 : spB 0 1 s
    · rw [h1] at C1
      have hO : sorB t s ⟨n, x⟩ = false := by first | (unfold sorB; rw [h0, h1]; rfl) | simp [sorB, h0, h1]
      rw [hO]
      have K0 : Kp w ((w.alloc (.cells #[.int .i64 n, .string x] 25)).alloc (.cells #[.int .i64 0, .int .i64 0, .int .i64 0] 29)) := ((Kp.refl _).alloc _).alloc _
      have S0 : OpnAt ((w.alloc (.cells #[.int .i64 n, .string x] 25)).alloc (.cells #[.int .i64 0, .int .i64 0, .int .i64 0] 29)) w.heap.size 0 ⟨n, x⟩ := ⟨by simp [go_sem], by simp [go_sem]⟩
      have T0 : Bx3 ((w.alloc (.cells #[.int .i64 n, .string x] 25)).alloc (.cells #[.int .i64 0, .int .i64 0, .int .i64 0] 29)) (w.heap.size + 1) 0 0 0 := by
          have := Bx3.new (w.alloc (.cells #[.int .i64 n, .string x] 25)) 0 0 0 29
          simpa using this
      go_enter Tryz.func7, Tryz.ntmps7
      go_upto_region 1 with fail
      generalize ((w.alloc (.cells #[.int .i64 n, .string x] 25)).alloc (.cells #[.int .i64 0, .int .i64 0, .int .i64 0] 29)) = W0 at *
      go_wp2_with fail
      refine (C0.out _).mono ?_
      rintro e1 w1 ⟨rfl, hw1⟩
      have K1 : Kp w w1 := hw1 ▸ K0
      have T1 : Bx3 w1 (w.heap.size + 1) 0 0 0 := hw1 ▸ T0
      have S1 : OpnAt w1 w.heap.size 0 ⟨n, x⟩ := hw1 ▸ S0
      clear hw1
      go_wp2_with fail
      refine (C1.out _).mono ?_
      rintro e2 w2 ⟨rfl, hw2⟩
      have K2 : Kp w w2 := hw2 ▸ K1
      have T2 : Bx3 w2 (w.heap.size + 1) 0 0 0 := hw2 ▸ T1
      have S2 : OpnAt w2 w.heap.size 0 ⟨n, x⟩ := hw2 ▸ S1
      clear hw2
      obtain ⟨⟨c3, c4, c5⟩, f0, f1, f2⟩ := T2
      go_wp2_with fail
      exact bodyPost_ret (v := .tuple #[slx 0 0 0, .bool false]) (by simp [results, Tryz.results7, go_sem, *]) rfl ⟨rfl, ((K2.setCell (by simp) _).setCell (by simp) _).setCell (by simp) _⟩
    · rw [h1] at C1
      cases h2 : opnB ⟨n, x⟩
      · rw [h2] at C2
        have hO : sorB t s ⟨n, x⟩ = false := by first | (unfold sorB; rw [h0, h1, h2]; rfl) | simp [sorB, h0, h1, h2]
        rw [hO]
        have K0 : Kp w ((w.alloc (.cells #[.int .i64 n, .string x] 25)).alloc (.cells #[.int .i64 0, .int .i64 0, .int .i64 0] 29)) := ((Kp.refl _).alloc _).alloc _
        have S0 : OpnAt ((w.alloc (.cells #[.int .i64 n, .string x] 25)).alloc (.cells #[.int .i64 0, .int .i64 0, .int .i64 0] 29)) w.heap.size 0 ⟨n, x⟩ := ⟨by simp [go_sem], by simp [go_sem]⟩
        have T0 : Bx3 ((w.alloc (.cells #[.int .i64 n, .string x] 25)).alloc (.cells #[.int .i64 0, .int .i64 0, .int .i64 0] 29)) (w.heap.size + 1) 0 0 0 := by
            have := Bx3.new (w.alloc (.cells #[.int .i64 n, .string x] 25)) 0 0 0 29
            simpa using this
        go_enter Tryz.func7, Tryz.ntmps7
        go_upto_region 1 with fail
        generalize ((w.alloc (.cells #[.int .i64 n, .string x] 25)).alloc (.cells #[.int .i64 0, .int .i64 0, .int .i64 0] 29)) = W0 at *
        go_wp2_with fail
        refine (C0.out _).mono ?_
        rintro e1 w1 ⟨rfl, hw1⟩
        have K1 : Kp w w1 := hw1 ▸ K0
        have T1 : Bx3 w1 (w.heap.size + 1) 0 0 0 := hw1 ▸ T0
        have S1 : OpnAt w1 w.heap.size 0 ⟨n, x⟩ := hw1 ▸ S0
        clear hw1
        go_wp2_with fail
        refine (C1.out _).mono ?_
        rintro e2 w2 ⟨rfl, hw2⟩
        have K2 : Kp w w2 := hw2 ▸ K1
        have T2 : Bx3 w2 (w.heap.size + 1) 0 0 0 := hw2 ▸ T1
        have S2 : OpnAt w2 w.heap.size 0 ⟨n, x⟩ := hw2 ▸ S1
        clear hw2
        obtain ⟨p0, p1⟩ := id S2
        simp only [Nat.zero_add] at p0 p1
        go_wp2_with fail
        refine (C2.out _).mono ?_
        rintro e3 w3 ⟨rfl, k3⟩
        have K3 := K2.trans k3
        have T3 := T2.keep k3
        have S3 := S2.keep k3
        obtain ⟨⟨c3, c4, c5⟩, f0, f1, f2⟩ := T3
        go_wp2_with fail
        exact bodyPost_ret (v := .tuple #[slx 0 0 0, .bool false]) (by simp [results, Tryz.results7, go_sem, *]) rfl ⟨rfl, ((K3.setCell (by simp) _).setCell (by simp) _).setCell (by simp) _⟩
      · have hO : sorB t s ⟨n, x⟩ = true := by first | (unfold sorB; rw [h0, h1, h2]; rfl) | simp [sorB, h0, h1, h2]
        rw [hO]
        clear hO
        rw [h2] at C2
        have CQ := Lib.hid (fun w => eSeal_any t s n x w (opnB_size h2))
        generalize selN t s n x = X at *
        have K0 : Kp w ((w.alloc (.cells #[.int .i64 n, .string x] 25)).alloc (.cells #[.int .i64 0, .int .i64 0, .int .i64 0] 29)) := ((Kp.refl _).alloc _).alloc _
        have S0 : OpnAt ((w.alloc (.cells #[.int .i64 n, .string x] 25)).alloc (.cells #[.int .i64 0, .int .i64 0, .int .i64 0] 29)) w.heap.size 0 ⟨n, x⟩ := ⟨by simp [go_sem], by simp [go_sem]⟩
        have T0 : Bx3 ((w.alloc (.cells #[.int .i64 n, .string x] 25)).alloc (.cells #[.int .i64 0, .int .i64 0, .int .i64 0] 29)) (w.heap.size + 1) 0 0 0 := by
            have := Bx3.new (w.alloc (.cells #[.int .i64 n, .string x] 25)) 0 0 0 29
            simpa using this
        go_enter Tryz.func7, Tryz.ntmps7
        go_upto_region 1 with fail
        generalize ((w.alloc (.cells #[.int .i64 n, .string x] 25)).alloc (.cells #[.int .i64 0, .int .i64 0, .int .i64 0] 29)) = W0 at *
        go_wp2_with fail
        refine (C0.out _).mono ?_
        rintro e1 w1 ⟨rfl, hw1⟩
        have K1 : Kp w w1 := hw1 ▸ K0
        have T1 : Bx3 w1 (w.heap.size + 1) 0 0 0 := hw1 ▸ T0
        have S1 : OpnAt w1 w.heap.size 0 ⟨n, x⟩ := hw1 ▸ S0
        clear hw1
        go_wp2_with fail
        refine (C1.out _).mono ?_
        rintro e2 w2 ⟨rfl, hw2⟩
        have K2 : Kp w w2 := hw2 ▸ K1
        have T2 : Bx3 w2 (w.heap.size + 1) 0 0 0 := hw2 ▸ T1
        have S2 : OpnAt w2 w.heap.size 0 ⟨n, x⟩ := hw2 ▸ S1
        clear hw2
        obtain ⟨p0, p1⟩ := id S2
        simp only [Nat.zero_add] at p0 p1
        go_wp2_with fail
        refine (C2.out _).mono ?_
        rintro e3 w3 ⟨rfl, k3⟩
        have K3 := K2.trans k3
        have T3 := T2.keep k3
        have S3 := S2.keep k3
        obtain ⟨q0, q1⟩ := S3
        simp only [Nat.zero_add] at q0 q1
        go_wp2_with fail
        refine (CQ.out _).mono ?_
        rintro e9 w9 ⟨rfl, k9⟩
        have K9 := K3.trans k9
        obtain ⟨⟨c3, c4, c5⟩, f0, f1, f2⟩ := T3.keep k9
        go_wp2_with fail
        exact bodyPost_ret (v := .tuple #[slx t s X, .bool true]) (by simp [results, Tryz.results7, go_sem, *]) rfl ⟨rfl, ((K9.setCell (by simp) _).setCell (by simp) _).setCell (by simp) _⟩

set_option maxRecDepth 100000 in
set_option maxHeartbeats 4000000 in
theorem opensToFP_any (t s y n : Int) (x : ByteArray) (w : World) (hg0 : SpanAt w 0 0 30) (hg1 : SpanAt w 1 0 1) (hg2 : SpanAt w 2 0 4611686016279904236) (hg3 : SpanAt w 3 0 150) (hT : Lib.Utf8Tabs 6 7 w) :
    Calls Tryz.prog 8 #[slx t s y, opx n x] w fun e w' => e = .returned (.tuple #[.bool (otB ⟨t, s, y⟩ ⟨n, x⟩ && opnsB ⟨t, s, y⟩ ⟨n, x⟩), .bool (otB ⟨t, s, y⟩ ⟨n, x⟩)]) ∧ Kp w w' := by
  have HT := Lib.hid hT
  clear hT
  have C0 := Lib.hid (fun (w : World) (h : SpanAt w 0 0 30 ∧ SpanAt w 1 0 1 ∧ SpanAt w 2 0 4611686016279904236) => isSealedP_any t s y w h.1 h.2.1 h.2.2)
  have C1 := Lib.hid (fun (w : World) (h : SpanAt w 2 0 4611686016279904236 ∧ SpanAt w 3 0 150) => isValidP_any n x w h.1 h.2)
  cases h0 : seaB ⟨t, s, y⟩
  · rw [h0] at C0
    have hO : otB ⟨t, s, y⟩ ⟨n, x⟩ = false := by first | (unfold otB; rw [h0]; rfl) | simp [otB, h0]
    rw [hO]
    have K0 : Kp w ((w.alloc (.cells #[.int .i64 t, .int .i64 s, .int .i64 y] 29)).alloc (.cells #[.int .i64 n, .string x] 25)) := ((Kp.refl _).alloc _).alloc _
    have R0 : SeaAt ((w.alloc (.cells #[.int .i64 t, .int .i64 s, .int .i64 y] 29)).alloc (.cells #[.int .i64 n, .string x] 25)) w.heap.size 0 ⟨t, s, y⟩ := ⟨by simp [go_sem], by simp [go_sem], by simp [go_sem]⟩
    have S0 : OpnAt ((w.alloc (.cells #[.int .i64 t, .int .i64 s, .int .i64 y] 29)).alloc (.cells #[.int .i64 n, .string x] 25)) (w.heap.size + 1) 0 ⟨n, x⟩ := ⟨by simp [go_sem], by simp [go_sem]⟩
    go_enter Tryz.func8, Tryz.ntmps8
    go_upto_region 1 with fail
    generalize ((w.alloc (.cells #[.int .i64 t, .int .i64 s, .int .i64 y] 29)).alloc (.cells #[.int .i64 n, .string x] 25)) = W0 at *
    obtain ⟨z0, z1, z2⟩ := id R0
    simp only [Nat.zero_add] at z0 z1 z2
    go_wp2_with fail
    refine (C0.out _ ⟨K0.two hg0, K0.two hg1, K0.two hg2⟩).mono ?_
    rintro e1 w1 ⟨rfl, k1⟩
    have K1 := K0.trans k1
    have S1 := S0.keep k1
    have R1 := R0.keep k1
    go_wp2_with fail
    go_ret2
    exact ⟨rfl, K1⟩
  · rw [h0] at C0
    cases h1 : opnB ⟨n, x⟩
    · rw [h1] at C1
      have hO : otB ⟨t, s, y⟩ ⟨n, x⟩ = false := by first | (unfold otB; rw [h0, h1]; rfl) | simp [otB, h0, h1]
      rw [hO]
      have K0 : Kp w ((w.alloc (.cells #[.int .i64 t, .int .i64 s, .int .i64 y] 29)).alloc (.cells #[.int .i64 n, .string x] 25)) := ((Kp.refl _).alloc _).alloc _
      have R0 : SeaAt ((w.alloc (.cells #[.int .i64 t, .int .i64 s, .int .i64 y] 29)).alloc (.cells #[.int .i64 n, .string x] 25)) w.heap.size 0 ⟨t, s, y⟩ := ⟨by simp [go_sem], by simp [go_sem], by simp [go_sem]⟩
      have S0 : OpnAt ((w.alloc (.cells #[.int .i64 t, .int .i64 s, .int .i64 y] 29)).alloc (.cells #[.int .i64 n, .string x] 25)) (w.heap.size + 1) 0 ⟨n, x⟩ := ⟨by simp [go_sem], by simp [go_sem]⟩
      go_enter Tryz.func8, Tryz.ntmps8
      go_upto_region 1 with fail
      generalize ((w.alloc (.cells #[.int .i64 t, .int .i64 s, .int .i64 y] 29)).alloc (.cells #[.int .i64 n, .string x] 25)) = W0 at *
      obtain ⟨z0, z1, z2⟩ := id R0
      simp only [Nat.zero_add] at z0 z1 z2
      go_wp2_with fail
      refine (C0.out _ ⟨K0.two hg0, K0.two hg1, K0.two hg2⟩).mono ?_
      rintro e1 w1 ⟨rfl, k1⟩
      have K1 := K0.trans k1
      have S1 := S0.keep k1
      have R1 := R0.keep k1
      obtain ⟨p0, p1⟩ := id S1
      simp only [Nat.zero_add] at p0 p1
      go_wp2_with fail
      refine (C1.out _ ⟨K1.two hg2, K1.two hg3⟩).mono ?_
      rintro e2 w2 ⟨rfl, k2⟩
      have K2 := K1.trans k2
      have S2 := S1.keep k2
      have R2 := R1.keep k2
      go_wp2_with fail
      go_ret2
      exact ⟨rfl, K2⟩
    · have hO : otB ⟨t, s, y⟩ ⟨n, x⟩ = true := by first | (unfold otB; rw [h0, h1]; rfl) | simp [otB, h0, h1]
      rw [hO]
      clear hO
      rw [h1] at C1
      have CQ := Lib.hid (fun w hT => opensToP_any t s y n x w (opnB_size h1) hT)
      generalize opnsB ⟨t, s, y⟩ ⟨n, x⟩ = X at *
      have K0 : Kp w ((w.alloc (.cells #[.int .i64 t, .int .i64 s, .int .i64 y] 29)).alloc (.cells #[.int .i64 n, .string x] 25)) := ((Kp.refl _).alloc _).alloc _
      have R0 : SeaAt ((w.alloc (.cells #[.int .i64 t, .int .i64 s, .int .i64 y] 29)).alloc (.cells #[.int .i64 n, .string x] 25)) w.heap.size 0 ⟨t, s, y⟩ := ⟨by simp [go_sem], by simp [go_sem], by simp [go_sem]⟩
      have S0 : OpnAt ((w.alloc (.cells #[.int .i64 t, .int .i64 s, .int .i64 y] 29)).alloc (.cells #[.int .i64 n, .string x] 25)) (w.heap.size + 1) 0 ⟨n, x⟩ := ⟨by simp [go_sem], by simp [go_sem]⟩
      go_enter Tryz.func8, Tryz.ntmps8
      go_upto_region 1 with fail
      generalize ((w.alloc (.cells #[.int .i64 t, .int .i64 s, .int .i64 y] 29)).alloc (.cells #[.int .i64 n, .string x] 25)) = W0 at *
      obtain ⟨z0, z1, z2⟩ := id R0
      simp only [Nat.zero_add] at z0 z1 z2
      go_wp2_with fail
      refine (C0.out _ ⟨K0.two hg0, K0.two hg1, K0.two hg2⟩).mono ?_
      rintro e1 w1 ⟨rfl, k1⟩
      have K1 := K0.trans k1
      have S1 := S0.keep k1
      have R1 := R0.keep k1
      obtain ⟨p0, p1⟩ := id S1
      simp only [Nat.zero_add] at p0 p1
      go_wp2_with fail
      refine (C1.out _ ⟨K1.two hg2, K1.two hg3⟩).mono ?_
      rintro e2 w2 ⟨rfl, k2⟩
      have K2 := K1.trans k2
      have S2 := S1.keep k2
      have R2 := R1.keep k2
      obtain ⟨z0, z1, z2⟩ := id R2
      simp only [Nat.zero_add] at z0 z1 z2
      obtain ⟨p0, p1⟩ := id S2
      simp only [Nat.zero_add] at p0 p1
      go_wp2_with fail
      refine (CQ.out _ (by first | exact Lib.Utf8Tabs_below HT.out K2 | exact Utf8Tabs_below HT.out K2)).mono ?_
      rintro e9 w9 ⟨rfl, k9⟩
      go_wp2_with fail
      go_ret2
      exact ⟨rfl, K2.trans k9⟩

set_option maxRecDepth 100000 in
set_option maxHeartbeats 4000000 in
theorem isRoundOp_any (v : Value) (l : List Opn) (w : World) (h : RdOp w v l) (hl : l.length ≤ 1048576) (hr : SpanAt w 4 0 4) (hg2 : SpanAt w 2 0 4611686016279904236) (hg3 : SpanAt w 3 0 150) :
    Calls Tryz.prog 37 #[v, .func (.func 24) #[] #[]] w fun e w' => e = .returned (.bool (roundB opnB l)) ∧ Kp w w' := by
  obtain ⟨A, c, rfl, h⟩ := h
  have HA := Lib.hid h
  have HS := Lib.hid (show SpanAt w 2 0 4611686016279904236 ∧ SpanAt w 3 0 150 from ⟨hg2, hg3⟩)
  clear h
  have hR : roundB opnB l = (decide (l.length ≤ 4) && l.all opnB) := rfl
  obtain ⟨n, hn⟩ : ∃ n, l.length = n := ⟨_, rfl⟩
  rw [hR]
  clear hR
  obtain ⟨F, hF⟩ : ∃ F, F = l.all opnB := ⟨_, rfl⟩
  rw [← hF]
  have HF := Lib.hid hF
  clear hF
  rw [hn] at HA hl ⊢
  have HN := Lib.hid hn
  clear hn
  have C0 := Lib.hid (fun w => has_any 0 4 (n : Int) w)
  obtain ⟨b0, c0⟩ := hr
  by_cases hb : n ≤ 4
  · have hd : decide (n ≤ 4) = true := by simpa using hb
    rw [hd, Bool.true_and]
    have h0 : spB 0 4 (n : Int) = true := by simp [spB]; omega
    rw [h0] at C0
    clear h0 hd
    go_enter Tryz.func37, Tryz.ntmps37
    go_wp2_with fail
    refine (C0.out _).mono ?_
    rintro e1 w1 ⟨rfl, k1⟩
    clear b0 c0
    go_wp2_with fail
    go_loopw [14] (fun i wr => ∃ k : Nat, k ≤ n ∧ i = .int .i64 k ∧ Hid (∀ j x, j < k → l[j]? = some x → opnB x = true) ∧ Kp w wr) (fun i _ => n - (intOf i).toNat)
    case atStart => exact ⟨0, by omega, rfl, Lib.hid (fun j x hj => absurd hj (by omega)), k1⟩
    case round =>
      clear k1
      obtain ⟨k, hk, rfl, hP, kr⟩ := hrel
      by_cases hlt : k < n
      · have hlt' : (k : Int) < n := by omega
        obtain ⟨g, off, rfl, hc⟩ := HA.out (by omega)
        obtain ⟨x, hx⟩ : ∃ x, l[k]? = some x := ⟨l[k]'(by have := HN.out; omega), List.getElem?_eq_getElem _⟩
        have a9 := (hc k x hx).keep kr
        have HX := Lib.hid hx
        clear hc hx
        obtain ⟨n, x⟩ := x
        obtain ⟨a0, a1⟩ := a9
        simp only at a0 a1 
        have HC := Lib.hid (fun (w : World) (h : SpanAt w 2 0 4611686016279904236 ∧ SpanAt w 3 0 150) => isValidP_any n x w h.1 h.2)
        cases hok : opnB ⟨n, x⟩
        · have hf : Hid (F = false) := Lib.hid (by rw [HF.out]; exact allB_no HX.out hok)
          rw [hok] at HC
          clear hok
          go_wp2_with (first | (go_at_call 24; refine (HC.out _ ⟨((kr.alloc (.cells #[.int .i64 n, .string x] 25))).two HS.out.1, ((kr.alloc (.cells #[.int .i64 n, .string x] 25))).two HS.out.2⟩).mono ?_; rintro e2 w2 ⟨rfl, k2⟩))
          go_ret
          exact ⟨ret_bool hf.out.symm, (kr.alloc (.cells #[.int .i64 n, .string x] 25)).trans k2⟩
        · have HP2 : Hid (∀ j x, j < k + 1 → l[j]? = some x → opnB x = true) := Lib.hid (fun j y hj hy => by
            by_cases e : j = k
            · subst e
              rw [HX.out] at hy
              obtain rfl := Option.some.inj hy
              exact hok
            · exact hP.out j y (by omega) hy)
          rw [hok] at HC
          clear hok
          go_wp2_with (first | (go_at_call 24; refine (HC.out _ ⟨((kr.alloc (.cells #[.int .i64 n, .string x] 25))).two HS.out.1, ((kr.alloc (.cells #[.int .i64 n, .string x] 25))).two HS.out.2⟩).mono ?_; rintro e2 w2 ⟨rfl, k2⟩))
          go_roundw
          case rel => exact ⟨k + 1, by omega, by go_num, HP2, (kr.alloc (.cells #[.int .i64 n, .string x] 25)).trans k2⟩
          case measure => simp [intOf]; omega
      · obtain rfl : k = n := by omega
        have hf : Hid (F = true) := Lib.hid (by rw [HF.out]; exact allB_yes (fun j x hj hx => hP.out j x (by have := HN.out; omega) hx))
        go_wp2_with fail
        go_ret
        exact ⟨ret_bool hf.out.symm, kr⟩
  · have hd : decide (n ≤ 4) = false := by simpa using hb
    rw [hd, Bool.false_and]
    have h0 : spB 0 4 (n : Int) = false := by simp [spB]; omega
    rw [h0] at C0
    clear h0 hd
    go_enter Tryz.func37, Tryz.ntmps37
    go_wp2_with fail
    refine (C0.out _).mono ?_
    rintro e1 w1 ⟨rfl, k1⟩
    go_wp2_with fail
    go_ret
    exact ⟨rfl, k1⟩


end Go.Proofs.YtbohefollbmhkaaGreatDoor
