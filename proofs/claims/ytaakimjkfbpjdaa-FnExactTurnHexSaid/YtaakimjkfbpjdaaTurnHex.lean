/-
  The law on TurnHex holds at every argument: the program's answer is the reference's, and the arguments read as before. No condition.
-/
import Derived.Test.YtaakimjkfbpjdaaLaw
import Derived.Test.YtaakimjkfbpjdaaFar
import Derived.Test.YtaakimjkfbpjdaaTurnSpec
import Derived.Deep.RegionHeld3
import Derived.Deep.DeepCutAuto
namespace Go.Proofs.Ytaakimjkfbpjdaa.turnHexLaw
open Go.ChangeShapes Go.WideShapes Go.ChangeAt Go.RowKit Go.Joins

set_option maxHeartbeats 4000000 in
theorem walk (q0 r0 q1 r1 n2 : Int) (w : World) :
    Calls Try.prog 7 #[hx q0 r0, hx q1 r1, .int .i64 n2] w fun e w' => e = .returned (.bool true) ∧ Kp w w' := by
  obtain ⟨B, hB⟩ : ∃ B, B = turnOk q0 r0 q1 r1 n2 := ⟨_, rfl⟩
  obtain ⟨X, hX⟩ : ∃ X, X = vI B (q1 + (turnN (q0 - q1) (r0 - r1) n2.toNat).1) := ⟨_, rfl⟩
  obtain ⟨Y, hY⟩ : ∃ Y, Y = vI B (r1 + (turnN (q0 - q1) (r0 - r1) n2.toNat).2) := ⟨_, rfl⟩
  have hv : hb3 (turnOk q0 r0 q1 r1 n2) (q1 + (turnN (q0 - q1) (r0 - r1) n2.toNat).1) (r1 + (turnN (q0 - q1) (r0 - r1) n2.toNat).2) = .tuple #[hx X Y, .bool B] := by rw [hX, hY, hB]
  have cs : ∀ w, Calls Try.prog 27 #[hx q0 r0, hx q1 r1, .int .i64 n2] w fun e w' => e = .returned (.tuple #[hx X Y, .bool B]) ∧ Kp w w' := fun w => by rw [← hv]; exact specTurnHex_any q0 r0 q1 r1 n2 w
  have ci : ∀ w, Calls Try.prog 28 #[hx q0 r0, hx q1 r1, .int .i64 n2] w fun e w' => e = .returned (.tuple #[hx X Y, .bool B]) ∧ Kp w w' := fun w => by rw [← hv]; exact turnHex_any q0 r0 q1 r1 n2 w
  have CS := Lib.hid cs
  have CI := Lib.hid ci
  clear cs ci hv hX hY hB
  go_enter Try.func7, Try.ntmps7
  go_wp2
  have hs0 : ((w.alloc (.cells #[.int .i64 q0, .int .i64 r0] 36)).alloc (.cells #[.int .i64 q1, .int .i64 r1] 36)).cell? ⟨w.heap.size, 0, none⟩ = some (.int .i64 q0) ∧ ((w.alloc (.cells #[.int .i64 q0, .int .i64 r0] 36)).alloc (.cells #[.int .i64 q1, .int .i64 r1] 36)).cell? ⟨w.heap.size, 1, none⟩ = some (.int .i64 r0) ∧ ((w.alloc (.cells #[.int .i64 q0, .int .i64 r0] 36)).alloc (.cells #[.int .i64 q1, .int .i64 r1] 36)).cell? ⟨w.heap.size + 1, 0, none⟩ = some (.int .i64 q1) ∧ ((w.alloc (.cells #[.int .i64 q0, .int .i64 r0] 36)).alloc (.cells #[.int .i64 q1, .int .i64 r1] 36)).cell? ⟨w.heap.size + 1, 1, none⟩ = some (.int .i64 r1) := by simp [go_sem]
  generalize hw : ((w.alloc (.cells #[.int .i64 q0, .int .i64 r0] 36)).alloc (.cells #[.int .i64 q1, .int .i64 r1] 36)) = W at *
  have hk0 : Kp w W := by rw [← hw]; exact ((Kp.refl _).alloc _).alloc _
  have hl0 : w.heap.size < W.heap.size ∧ w.heap.size + 1 < W.heap.size ∧ w.heap.size ≠ W.heap.size ∧ w.heap.size + 1 ≠ W.heap.size ∧ W.heap.size ≠ w.heap.size ∧ W.heap.size ≠ w.heap.size + 1 := by rw [← hw]; simp; omega
  clear hw
  go_upto_region 1 with fail
  go_cut [7, 8] (fun s7 s8 wx => ∃ g : Nat, s7 = .pointer (some ⟨g, 0, none⟩) ∧ s8 = .bool B ∧ (wx.cell? ⟨g, 0, none⟩ = some (.int .i64 X) ∧ wx.cell? ⟨g, 1, none⟩ = some (.int .i64 Y)) ∧ (wx.cell? ⟨w.heap.size, 0, none⟩ = some (.int .i64 q0) ∧ wx.cell? ⟨w.heap.size, 1, none⟩ = some (.int .i64 r0) ∧ wx.cell? ⟨w.heap.size + 1, 0, none⟩ = some (.int .i64 q1) ∧ wx.cell? ⟨w.heap.size + 1, 1, none⟩ = some (.int .i64 r1)) ∧ Kp W wx ∧ W.heap.size ≤ g ∧ g < wx.heap.size)
  case first =>
    go_region_held3 (fun w' => w'.cell? ⟨w.heap.size, 0, none⟩ = some (.int .i64 q0) ∧ w'.cell? ⟨w.heap.size, 1, none⟩ = some (.int .i64 r0) ∧ w'.cell? ⟨w.heap.size + 1, 0, none⟩ = some (.int .i64 q1) ∧ w'.cell? ⟨w.heap.size + 1, 1, none⟩ = some (.int .i64 r1)) (first | assumption | exact far_four (by omega) (by assumption) | go_keep)
      (first
        | (go_at_call_of 19 q0; refine (toHex_any _ _ _).mono ?_; rintro e wp1 ⟨rfl, kp1⟩; have sp1 := kp1.four (by assumption); obtain ⟨cp1, fp1⟩ := kp1.cells; have zp1 := kp1.size; (try simp at zp1); (try have yp1W : W.heap.size < wp1.heap.size := (by omega)))
        | (go_at_call_of 19 q1; refine (toHex_any _ _ _).mono ?_; rintro e wq1 ⟨rfl, kq1⟩; have sq1 := kq1.four (by assumption); obtain ⟨cq1, fq1⟩ := kq1.cells; have zq1 := kq1.size; (try simp at zq1); (try have yq1W : W.heap.size < wq1.heap.size := (by omega)); (try have yq1p1 : wp1.heap.size < wq1.heap.size := (by omega)))
        | (go_at_call 27; refine (CS.out _).mono ?_; rintro e wz1 ⟨rfl, kz1⟩; have sz1 := kz1.four (by assumption); obtain ⟨cz1, fz1⟩ := kz1.cells; have zz1 := kz1.size; (try simp at zz1); (try have yz1W : W.heap.size < wz1.heap.size := (by omega)); (try have yz1p1 : wp1.heap.size < wz1.heap.size := (by omega)); (try have yz1q1 : wq1.heap.size < wz1.heap.size := (by omega))))
    all_goals
      go_wp2_with fail
      go_meet
      exact ⟨_, rfl, rfl, ⟨by simp [go_sem, *], by simp [go_sem, *]⟩, by assumption, by repeat (first | exact Kp.refl _ | refine Kp.alloc ?_ _ | refine Kp.setCell ?_ (by first | (simp; done) | (simp; omega) | omega) _ | refine Kp.drew ?_ | refine Kp.trans ?_ (by assumption)), by first | (simp; done) | (simp; omega) | omega, by first | (simp; done) | (simp; omega) | omega⟩
  case rest =>
    obtain ⟨g1, rfl, rfl, hg1, hs1, hk1, hlo1, hhi1⟩ := hcut
    have hz1 := hk1.size
    have hl1 : w.heap.size < wc.heap.size ∧ w.heap.size + 1 < wc.heap.size := by omega
    generalize wc = W1 at *
    clear hs0
    go_upto_region 2 with fail
    go_cut [9, 10] (fun s9 s10 wx => ∃ g : Nat, s9 = .pointer (some ⟨g, 0, none⟩) ∧ s10 = .bool B ∧ (wx.cell? ⟨g, 0, none⟩ = some (.int .i64 X) ∧ wx.cell? ⟨g, 1, none⟩ = some (.int .i64 Y)) ∧ (wx.cell? ⟨w.heap.size, 0, none⟩ = some (.int .i64 q0) ∧ wx.cell? ⟨w.heap.size, 1, none⟩ = some (.int .i64 r0) ∧ wx.cell? ⟨w.heap.size + 1, 0, none⟩ = some (.int .i64 q1) ∧ wx.cell? ⟨w.heap.size + 1, 1, none⟩ = some (.int .i64 r1)) ∧ Kp W1 wx ∧ W1.heap.size ≤ g ∧ g < wx.heap.size)
    case first =>
      go_region_held3 (fun w' => w'.cell? ⟨w.heap.size, 0, none⟩ = some (.int .i64 q0) ∧ w'.cell? ⟨w.heap.size, 1, none⟩ = some (.int .i64 r0) ∧ w'.cell? ⟨w.heap.size + 1, 0, none⟩ = some (.int .i64 q1) ∧ w'.cell? ⟨w.heap.size + 1, 1, none⟩ = some (.int .i64 r1)) (first | assumption | exact far_four (by omega) (by assumption) | go_keep)
        (first
          | (go_at_call_of 19 q0; refine (toHex_any _ _ _).mono ?_; rintro e wp2 ⟨rfl, kp2⟩; have sp2 := kp2.four (by assumption); obtain ⟨cp2, fp2⟩ := kp2.cells; have zp2 := kp2.size; (try simp at zp2); (try have yp2W : W1.heap.size < wp2.heap.size := (by omega)))
          | (go_at_call_of 19 q1; refine (toHex_any _ _ _).mono ?_; rintro e wq2 ⟨rfl, kq2⟩; have sq2 := kq2.four (by assumption); obtain ⟨cq2, fq2⟩ := kq2.cells; have zq2 := kq2.size; (try simp at zq2); (try have yq2W : W1.heap.size < wq2.heap.size := (by omega)); (try have yq2p2 : wp2.heap.size < wq2.heap.size := (by omega)))
          | (go_at_call 28; refine (CI.out _).mono ?_; rintro e wz2 ⟨rfl, kz2⟩; have sz2 := kz2.four (by assumption); obtain ⟨cz2, fz2⟩ := kz2.cells; have zz2 := kz2.size; (try simp at zz2); (try have yz2W : W1.heap.size < wz2.heap.size := (by omega)); (try have yz2p2 : wp2.heap.size < wz2.heap.size := (by omega)); (try have yz2q2 : wq2.heap.size < wz2.heap.size := (by omega))))
      all_goals
        go_wp2_with fail
        go_meet
        exact ⟨_, rfl, rfl, ⟨by simp [go_sem, *], by simp [go_sem, *]⟩, by assumption, by repeat (first | exact Kp.refl _ | refine Kp.alloc ?_ _ | refine Kp.setCell ?_ (by first | (simp; done) | (simp; omega) | omega) _ | refine Kp.drew ?_ | refine Kp.trans ?_ (by assumption)), by first | (simp; done) | (simp; omega) | omega, by first | (simp; done) | (simp; omega) | omega⟩
    case rest =>
      obtain ⟨g2, rfl, rfl, hg2, hs2, hk2, hlo2, hhi2⟩ := hcut
      have hh := hk2.two hg1
      clear hs2
      go_wp2_with fail
      refine (eqHex_any _ _ _ _ _).mono ?_
      rintro e w9 ⟨rfl, k9⟩
      go_wp2
      go_ret
      exact ⟨rfl, hk0.trans ((hk1.trans hk2).trans k9)⟩

set_option maxRecDepth 100000 in
theorem lifted (os : Os) (started : os.Started) (H : Type) (enc : TypeId × Value → H) :
    ReturnsInHanded {} Try.checked os 7 .any (Rows.fnExactTurnHexSpec.pre6 enc Try.prog Try.f7 Rows.fnExactTurnHexRow.domain false) (Rows.fnExactTurnHexSpec.post enc Try.prog Try.f7 false true false false) := by
  refine returnsInHanded_of_change (C := Try.checked) own started (by kernel_rfl) Try.func7
    (ChangeSpec.witness6 (enc := enc) (C := Try.checked) false ⟨#[], #[.agg #[.int .i64 0, .int .i64 0], .agg #[.int .i64 0, .int .i64 0], .int .i64 0], []⟩ 8 (by kernel_rfl) (by kernel_rfl) (by kernel_rfl) (by kernel_rfl)) ?_
  intro W base args ds gs before hval0 hW _ _
  have hval : ∀ (j : Nat) t v, Try.f7.params[j]? = some t → args[j]? = some v → Value.okWide Try.prog W .any base t v := hval0
  have hW' := hW
  obtain ⟨p, q, hA0, hV, rfl, _, _⟩ := hW
  have hA : DataW.TrodAll enc Try.prog W 0 (fun _ => true) true Try.f7.params.toList args.toList ds p := hA0
  rw [Try.params7] at hA hval
  obtain ⟨v0, v1, v2, d0, d1, d2, p0, p1, p2, rfl, rfl, rfl, h0, h1, h2⟩ := trodAll_three hA
  obtain ⟨rfl, rfl⟩ := trodVars_none hV
  obtain ⟨q0, r0, rfl, _, _⟩ := open_hex (hval 0 36 v0 rfl rfl) h0
  obtain ⟨q1, r1, rfl, _, _⟩ := open_hex (hval 1 36 v1 rfl rfl) h1
  obtain ⟨n2, rfl, _, _, wf2⟩ := open_int Try.underlying3 (hval 2 3 v2 rfl rfl) h2
  refine (walk q0 r0 q1 r1 n2 W).mono fun e W' ⟨he, hg⟩ => ?_
  subst he
  exact ⟨_, rfl, law_post hW' laidOut (by kernel_rfl) (by kernel_rfl) (by kernel_rfl) Try.underlying4 rfl hg⟩

theorem proved : Rows.FnExactTurnHexSaid :=
  OpenClaim.holds_of_wide 7 Try.f7 rfl rfl rfl rfl rfl rfl rfl ⟨rfl, rfl, rfl, rfl, rfl⟩ rfl rfl rfl rfl rfl (by kernel_rfl) Try.func7 (by kernel_rfl)
    (of_decide_eq_true (by kernel_rfl)) (by unfold Func.isWrapper; first | (rw [if_pos (by decide +kernel)]; kernel_rfl) | (rw [if_neg (by decide +kernel)]; exact ⟨rfl, rfl⟩))
    (fun os started H enc _ => lifted os started H enc)
#print axioms proved
end Go.Proofs.Ytaakimjkfbpjdaa.turnHexLaw
