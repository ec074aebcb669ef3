/-
  The reference's draws of seeds and numbers: what they give are numbers; all that was there is as it was.
-/
import Derived.Test.YtmhkjcgdjoeldaaDoorCuB
import Derived.Deep.Cut
import Derived.OwnWalk
namespace Go.Proofs.YtmhkjcgdjoeldaaDoor
open Go.RowKit

/-- A number drawn, the cursor at most at place K. -/
def NumC (base g K : Nat) (w : World) (e : Ending) (w' : World) : Prop :=
  ∃ x : Int, e = .returned (.int .i64 x) ∧ Cu w' base g K ∧ w.grownBy w' (some g)

theorem pickW (base g K : Nat) (m : Int) (w : World) (h : Cu w base g K) (hK : K ≤ 90000) (m1 : 201 ≤ m) (m2 : m ≤ 65536) :
    Calls Tryd.prog 19 #[.pointer (some ⟨g, 0, none⟩), .int .i64 m] w (NumC base g (K + 2) w) := by
  obtain ⟨A, n, c, p, h1, h2, h3, h4, h5, h6⟩ := h
  have C1 := Lib.hid (next_any g A n c p w h1 h2 (by omega) h3)
  have C2 := Lib.hid (fun w p' (hp : p' ≤ p + 1) h1 h2 => next_any g A n c p' w h1 h2 (by omega) h3)
  have H2 := Lib.hid h2
  have H6 := Lib.hid h6
  have hm0 : m ≠ 0 := by omega
  clear h1 h2 h6
  unfold DrawPost at C1 C2
  go_enter Tryd.func19, Tryd.ntmps19
  go_wp2_with fail
  refine C1.out.mono ?_
  rintro e1 w1 ⟨x, rfl, x0, x1, ⟨p1, hp1, cu1⟩, g1⟩
  have HR1 := Lib.hid (H2.out.grown g1 (fun h0 a ha => (H6.out h0 a ha).1))
  have HG1 := Lib.hid g1
  have HC1 := Lib.hid cu1
  clear g1 cu1
  go_wp2_with fail
  refine (C2.out _ p1 hp1 HC1.out HR1.out).mono ?_
  rintro e2 w2 ⟨y, rfl, y0, y1, ⟨p2, hp2, cu2⟩, g2⟩
  have HG2 := Lib.hid (And.intro cu2 g2)
  have hb : 0 ≤ (x * 256 + y) % m ∧ (x * 256 + y) % m ≤ m - 1 := ⟨Int.emod_nonneg _ (by omega), by have := Int.emod_lt_of_pos (x * 256 + y) (show 0 < m by omega); omega⟩
  clear cu2 g2
  go_wp2_with fail
  go_ret
  exact ⟨_, rfl, ⟨A, n, c, p2, HG2.out.1, HR1.out.grown HG2.out.2 (fun h0 a ha => (H6.out h0 a ha).1), h3, by omega, h5, H6.out⟩, HG1.out.trans HG2.out.2⟩

set_option maxRecDepth 100000 in
theorem seedC (base g K : Nat) (w : World) (h : Cu w base g K) (hK : K ≤ 80000) :
    Calls Tryd.prog 39 #[.pointer (some ⟨g, 0, none⟩)] w (NumC base g (K + 3) w) := by
  have C1 := Lib.hid (pickC base g K 12 w h (by omega) (by omega) (by omega))
  have C2 := Lib.hid (fun w hc => pickW base g (K + 1) 60000 w hc (by omega) (by omega) (by omega))
  have CA := Lib.hid (fun (w : World) (hc : Cu w base g (K + 1)) (hg : g < w.heap.size) => amongC base g (K + 1) w.heap.size 0 2 2 (-1) 4611686016279904237 (w.alloc (.cells #[.int .i64 4611686016279904236, .int .i64 123456789012] 3)) (hc.keep ((Kp.refl _).alloc _)) (by omega) (by omega) (by omega) (fun i hi => by rcases (show i = 0 ∨ i = 1 by omega) with rfl | rfl; exact ⟨4611686016279904236, by omega, by omega, by simp [go_sem]⟩; exact ⟨123456789012, by omega, by omega, by simp [go_sem]⟩) (by omega))
  have hgs := h.lt
  unfold PickC at C1
  unfold PickC at CA
  unfold NumC at C2
  have hgw : g < w.heap.size := by
    obtain ⟨A, n, c, p, cu, _⟩ := h
    exact cu.lt
  clear h
  go_enter Tryd.func39, Tryd.ntmps39
  go_wp2_with fail
  refine C1.out.mono ?_
  rintro e1 w1 ⟨x, rfl, x0, x1, cu1, g1⟩
  have HC1 := Lib.hid cu1
  have HG1 := Lib.hid g1
  have hgw1 : g < w1.heap.size := Nat.lt_of_lt_of_le hgw g1.size
  clear cu1 g1 C1
  by_cases h0 : x = 0
  · subst h0
    go_wp2_with fail
    go_ret
    exact ⟨0, rfl, HC1.out.le (by omega), HG1.out⟩
  · by_cases h1 : x = 1
    · subst h1
      go_wp2_with fail
      refine (CA.out w1 HC1.out hgw1).mono ?_
      rintro e2 w2 ⟨y, rfl, y0, y1, cu2, g2⟩
      have HC2 := Lib.hid cu2
      have HG2 := Lib.hid ((HG1.out.trans ((World.grownBy_alloc _ _ _))).trans g2)
      clear cu2 g2
      go_wp2_with fail
      go_ret
      exact ⟨y, rfl, HC2.out.le (by omega), HG2.out⟩
    · have e0 : (x == 0) = false := by simpa using h0
      have e1 : (x == 1) = false := by simpa using h1
      go_wp2_with fail
      refine (C2.out _ HC1.out).mono ?_
      rintro e2 w2 ⟨y, rfl, cu2, g2⟩
      have HC2 := Lib.hid cu2
      have HG2 := Lib.hid (HG1.out.trans g2)
      clear cu2 g2
      go_wp2_with fail
      go_ret
      exact ⟨y, rfl, HC2.out.le (by omega), HG2.out⟩

set_option maxRecDepth 100000 in
theorem anySeedC (base g K : Nat) (w : World) (h : Cu w base g K) (hK : K ≤ 70000) :
    Calls Tryd.prog 30 #[.pointer (some ⟨g, 0, none⟩)] w (NumC base g (K + 4) w) := by
  have C1 := Lib.hid (oneC base g K 24 w h (by omega) (by omega) (by omega))
  have C2 := Lib.hid (fun w hc => seedC base g (K + 1) w hc (by omega))
  have CA := Lib.hid (fun (w : World) (hc : Cu w base g (K + 1)) (hg : g < w.heap.size) => amongC base g (K + 1) w.heap.size 0 2 2 (-1) 4611686016279904237 (w.alloc (.cells #[.int .i64 (-1), .int .i64 4611686016279904237] 3)) (hc.keep ((Kp.refl _).alloc _)) (by omega) (by omega) (by omega) (fun i hi => by rcases (show i = 0 ∨ i = 1 by omega) with rfl | rfl; exact ⟨(-1), by omega, by omega, by simp [go_sem]⟩; exact ⟨4611686016279904237, by omega, by omega, by simp [go_sem]⟩) (by omega))
  unfold OneC at C1
  unfold PickC at CA
  unfold NumC at C2
  have hgw : g < w.heap.size := by
    obtain ⟨A, n, c, p, cu, _⟩ := h
    exact cu.lt
  clear h
  go_enter Tryd.func30, Tryd.ntmps30
  go_wp2_with fail
  refine C1.out.mono ?_
  rintro e1 w1 ⟨b, rfl, cu1, g1⟩
  have HC1 := Lib.hid cu1
  have HG1 := Lib.hid g1
  have hgw1 : g < w1.heap.size := Nat.lt_of_lt_of_le hgw g1.size
  clear cu1 g1 C1
  cases b
  · go_wp2_with fail
    refine (C2.out _ HC1.out).mono ?_
    rintro e2 w2 ⟨y, rfl, cu2, g2⟩
    have HC2 := Lib.hid cu2
    have HG2 := Lib.hid (HG1.out.trans g2)
    clear cu2 g2
    go_wp2_with fail
    go_ret
    exact ⟨y, rfl, HC2.out.le (by omega), HG2.out⟩
  · go_wp2_with fail
    refine (CA.out w1 HC1.out hgw1).mono ?_
    rintro e2 w2 ⟨y, rfl, y0, y1, cu2, g2⟩
    have HC2 := Lib.hid cu2
    have HG2 := Lib.hid ((HG1.out.trans ((World.grownBy_alloc _ _ _))).trans g2)
    clear cu2 g2
    go_wp2_with fail
    go_ret
    exact ⟨y, rfl, HC2.out.le (by omega), HG2.out⟩

end Go.Proofs.YtmhkjcgdjoeldaaDoor
