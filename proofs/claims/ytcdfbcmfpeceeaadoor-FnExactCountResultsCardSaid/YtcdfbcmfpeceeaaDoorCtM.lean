/-
  The laws' marking of a copied combat table: only the copy's own blocks are written, and the number handed back is not less.
-/
import Derived.Test.YtcdfbcmfpeceeaaDoorCt
import Derived.Test.YtcdfbcmfpeceeaaDoorMk
namespace Go.Proofs.YtcdfbcmfpeceeaaDoor
open Go.ChangeShapes Go.WideShapes Go.ChangeAt Go.RowKit Go.Joins Go.Deep

theorem OwnC.hi {w : World} {base : Nat} {c r : Value} {co : List (Int × Int)} {rs : List (List Int)} {vs : List Value} (h : OwnC w base c r co rs vs) :
    (∀ g, c.ownBlock = some g → g < w.heap.size) ∧ (∀ g, r.ownBlock = some g → g < w.heap.size) ∧ ∀ (j : Nat) (x : Value) (b : Nat), vs[j]? = some x → x.ownBlock = some b → b < w.heap.size :=
  ⟨fun g e => (World.ownsRow.lt h.oc g e).2, fun g e => (World.ownsRow.lt h.or.row g e).2, fun j x b hx hb => by
    have hl : rs[j]? = some (rs[j]'(by have := lt_at hx; have := h.or.len; omega)) := List.getElem?_eq_getElem _
    exact (World.ownsRow.lt (h.or.inn j x _ hx hl) b hb).2⟩

set_option maxRecDepth 100000 in
set_option maxHeartbeats 1000000 in
theorem markCombatTable_w (c r : Value) (d : Int) (co : List (Int × Int)) (rs : List (List Int)) (vs : List Value) (base lo hi : Nat) (k0 : Int) (w : World) (ho : OwnC w base c r co rs vs) (hs : ctSm co rs) (hlo : lo ≤ base) (hlw : lo ≤ w.heap.size)
    (hc : ∀ g, c.ownBlock = some g → g < hi) (hhi : ∀ (j : Nat) (x : Value) (b : Nat), vs[j]? = some x → x.ownBlock = some b → b < hi) (p0 : 0 ≤ k0) (p1 : k0 ≤ 1000000) :
    Calls Tryd.prog 46 #[cv c d r, .int .i64 k0] w fun e w' => ∃ k', e = .returned (.int .i64 k') ∧ k0 ≤ k' ∧ Mk lo hi w w' := by
  have KA : Kp w (w.alloc (.cells #[c, .int .i64 d, r] 26)) := (Kp.refl w).alloc _
  have f1 : (w.alloc (.cells #[c, .int .i64 d, r] 26)).cell? ⟨w.heap.size, 2, none⟩ = some r := by simp [go_sem]
  have HO := Lib.hid (ho.keep KA)
  have HS := Lib.hid hs
  have HHI := Lib.hid hhi
  have HC := Lib.hid hc
  have MA : Hid (Mk lo hi w (w.alloc (.cells #[c, .int .i64 d, r] 26))) := Lib.hid (Mk.of_kp KA hlw)
  have hsz : (w.alloc (.cells #[c, .int .i64 d, r] 26)).heap.size = w.heap.size + 1 := by simp
  have hm := hs.1
  obtain ⟨m, hm'⟩ : ∃ m, co.length = m := ⟨_, rfl⟩
  have HM := Lib.hid hm'
  rw [hm'] at hm
  have hbx : ∀ g, c.ownBlock = some g → g ≠ w.heap.size := fun g e => by have := (World.ownsRow.lt ho.oc g e).2; omega
  have HBX := Lib.hid hbx
  have HOC : Hid ((w.alloc (.cells #[c, .int .i64 d, r] 26)).ownsRow base 101 2 c m (cellsH co)) := Lib.hid (by have := (ho.keep KA).oc; unfold OwnO at this; rw [hm'] at this; exact this)
  clear ho hs hhi hc hm' hbx KA
  go_enter Tryd.func46, Tryd.ntmps46
  go_wp2_with fail
  generalize hW1 : w.alloc (.cells #[c, .int .i64 d, r] 26) = W1 at *
  clear hW1
  refine (markOddsS_gen c m base k0 (cellsH co) _ p0 p1 hm HOC.out).mono ?_
  rintro e1 w1 ⟨rfl, o1, g1⟩
  have f2 : w1.cell? ⟨w.heap.size, 2, none⟩ = some r := g1.cell f1 (fun e => HBX.out _ e.symm rfl)
  have OR : Hid (OwnII w1 base r rs vs) := Lib.hid ⟨World.ownsRow.kept HO.out.or.row g1 (by
      cases hv : r.ownBlock
      · exact .inl rfl
      · rename_i b
        exact .inr fun e => HO.out.cr b e.symm hv), fun i x l hx hl => World.ownsRow.kept (HO.out.or.inn i x l hx hl) g1 (by
      cases hv : x.ownBlock
      · exact .inl rfl
      · rename_i b
        exact .inr fun e => HO.out.ci b e.symm i x hx hv), HO.out.or.out, HO.out.or.two⟩
  have M1 : Hid (Mk lo hi w w1) := Lib.hid (MA.out.grown g1 (by omega) (fun b e => ⟨by have := (World.ownsRow.lt HOC.out b e).1; omega, HC.out b e⟩))
  have hz1 : lo ≤ w1.heap.size := by have := g1.size; omega
  clear o1 g1 f1 HO HOC MA
  go_wp2_with fail
  refine (markIntSS_w r rs vs base lo hi _ _ OR.out HS.out.2.1 HS.out.2.2 hlo hz1 HHI.out (by omega) (by omega)).mono ?_
  rintro e2 w2 ⟨k', rfl, y1, y2, m2⟩
  go_wp2_with fail
  go_ret
  exact ⟨_, rfl, by omega, M1.out.trans m2⟩

end Go.Proofs.YtcdfbcmfpeceeaaDoor
