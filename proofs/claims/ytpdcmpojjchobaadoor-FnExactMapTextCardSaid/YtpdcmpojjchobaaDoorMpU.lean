/-
  MapText of both sides, whatever the map; what a row's list says of the named variables.
-/
import Derived.Test.YtpdcmpojjchobaaDoorMpT
import Derived.Test.YtpdcmpojjchobaaDoorBue
namespace Go.Proofs.YtpdcmpojjchobaaDoor
open Go.ChangeShapes Go.WideShapes Go.ChangeAt Go.RowKit Go.Joins

def mtT (ok : Bool) (W H : Int) (lt lr ld : List Int) : ByteArray := if ok = true then txt (mapTx W H lt lr ld) else ⟨#[]⟩
structure MapSm (W H : Int) (lt lr ld : List Int) (n h : Nat) : Prop where
  ew : W = (n : Int)
  eh : H = (h : Int)
  n1 : 1 ≤ n ∧ n ≤ 10
  h1 : 1 ≤ h ∧ h ≤ 10
  len : lt.length = h * n
  tb : ∀ x ∈ lt, 0 ≤ x ∧ x < 100
  rb : ∀ x ∈ lr, 0 ≤ x ∧ x < 1000
  db : ∀ x ∈ ld, 0 ≤ x ∧ x < 1000
theorem mapOk_sm {W H : Int} {lt lr ld : List Int} (hok : mapOk W H lt lr ld = true) : ∃ n h, MapSm W H lt lr ld n h := by
  have h0 := hok
  simp only [mapOk, Bool.and_eq_true, decide_eq_true_iff] at h0
  obtain ⟨a1, a2, a3, a4, a5, a6⟩ := h0
  have b1 := sideB_true a1
  have b2 := sideB_true a2
  obtain ⟨n, rfl⟩ : ∃ n : Nat, W = n := ⟨W.toNat, by omega⟩
  obtain ⟨h, rfl⟩ : ∃ h : Nat, H = h := ⟨H.toNat, by omega⟩
  have hA : (n : Int) * h ≤ 100 := by
    have : n * h ≤ 10 * 10 := Nat.mul_le_mul (by omega) (by omega)
    omega
  refine ⟨n, h, rfl, rfl, by omega, by omega, ?_, fun x hx => ?_, edges_bd a5 hA, edges_bd a6 hA⟩
  · have : (lt.length : Int) = ((h * n : Nat) : Int) := by rw [a3, Int.natCast_mul, Int.mul_comm]
    omega
  · have := List.all_eq_true.1 a4 x hx
    simp only [terrB, Bool.and_eq_true, decide_eq_true_iff] at this
    omega

set_option maxRecDepth 100000 in
theorem specMapText_any (W H : Int) (t r d : Value) (lt lr ld : List Int) (w : World) (hL : Lists w t r d lt lr ld) :
    Calls Tryd.prog 18 #[mp W H t r d] w fun e w' => e = .returned (.tuple #[.string (mtT (mapOk W H lt lr ld) W H lt lr ld), .bool (mapOk W H lt lr ld)]) ∧ Kp w w' := by
  obtain ⟨At, ct, rfl, _⟩ := hL.rt
  obtain ⟨Ar, cr, rfl, _⟩ := hL.rr
  obtain ⟨Ad, cd, rfl, _⟩ := hL.rd
  obtain ⟨nt, hnt⟩ : ∃ n, lt.length = n := ⟨_, rfl⟩
  obtain ⟨nr, hnr⟩ : ∃ n, lr.length = n := ⟨_, rfl⟩
  obtain ⟨nd, hnd⟩ : ∃ n, ld.length = n := ⟨_, rfl⟩
  rw [hnt, hnr, hnd] at hL ⊢
  have KA : Kp w (w.alloc (.cells #[.int .i64 W, .int .i64 H, .slice At nt ct, .slice Ar nr cr, .slice Ad nd cd] 43)) := (Kp.refl w).alloc _
  have s0 : (w.alloc (.cells #[.int .i64 W, .int .i64 H, .slice At nt ct, .slice Ar nr cr, .slice Ad nd cd] 43)).cell? ⟨w.heap.size, 0, none⟩ = some (.int .i64 W) ∧ (w.alloc (.cells #[.int .i64 W, .int .i64 H, .slice At nt ct, .slice Ar nr cr, .slice Ad nd cd] 43)).cell? ⟨w.heap.size, 1, none⟩ = some (.int .i64 H) ∧ (w.alloc (.cells #[.int .i64 W, .int .i64 H, .slice At nt ct, .slice Ar nr cr, .slice Ad nd cd] 43)).cell? ⟨w.heap.size, 2, none⟩ = some (.slice At nt ct) ∧ (w.alloc (.cells #[.int .i64 W, .int .i64 H, .slice At nt ct, .slice Ar nr cr, .slice Ad nd cd] 43)).cell? ⟨w.heap.size, 3, none⟩ = some (.slice Ar nr cr) ∧ (w.alloc (.cells #[.int .i64 W, .int .i64 H, .slice At nt ct, .slice Ar nr cr, .slice Ad nd cd] 43)).cell? ⟨w.heap.size, 4, none⟩ = some (.slice Ad nd cd) := ⟨by simp [go_sem], by simp [go_sem], by simp [go_sem], by simp [go_sem], by simp [go_sem]⟩
  have CG := Lib.hid (mGood_any W H _ _ _ lt lr ld _ (hL.keep KA))
  have HL := Lib.hid (hL.keep KA)
  obtain ⟨R, hR⟩ : ∃ R, R = mapOk W H lt lr ld := ⟨_, rfl⟩
  rw [← hR] at CG ⊢
  cases R
  · clear hL hR
    go_enter Tryd.func18, Tryd.ntmps18
    go_wp2_with fail
    refine CG.out.mono ?_
    rintro e1 w1 ⟨rfl, k1⟩
    go_wp2_with fail
    go_ret2
    exact ⟨rfl, KA.trans k1⟩
  · obtain ⟨n, h, hsm⟩ := mapOk_sm hR.symm
    obtain ⟨rfl, rfl, m1, m2, m3, m4, m5, m6⟩ := hsm
    have CT := Lib.hid (fun w (hL : Lists w (.slice At nt ct) (.slice Ar nr cr) (.slice Ad nd cd) lt lr ld) => mText_any n h At Ar Ad nt ct nr cr nd cd lt lr ld w hL.rt hL.rr hL.rd m1 m2 m4 m5 m6 hL.bt hL.br hL.bd)
    obtain ⟨X, hX⟩ : ∃ X, txt (mapTx n h lt lr ld) = X := ⟨_, rfl⟩
    have HT : Hid (mtT true n h lt lr ld = X) := Lib.hid (by rw [← hX]; rfl)
    rw [hX] at CT
    clear hL hR hX m1 m2 m3 m4 m5 m6 hnt hnr hnd
    go_enter Tryd.func18, Tryd.ntmps18
    go_wp2_with fail
    refine CG.out.mono ?_
    rintro e1 w1 ⟨rfl, k1⟩
    obtain ⟨t0, t1, t2, t3, t4⟩ := s0
    have u0 := k1.cell t0
    have u1 := k1.cell t1
    have u2 := k1.cell t2
    have u3 := k1.cell t3
    have u4 := k1.cell t4
    have HL1 := Lib.hid (HL.out.keep k1)
    clear t0 t1 t2 t3 t4
    go_wp2_with fail
    refine (CT.out _ HL1.out).mono ?_
    rintro e3 w3 ⟨rfl, k3⟩
    go_wp2_with fail
    go_ret2
    exact ⟨ret_sb HT.out.symm rfl, (KA.trans k1).trans k3⟩

set_option maxRecDepth 100000 in
theorem implMapText_no (W H : Int) (At Ar Ad : Option Addr) (nt ct nr cr nd cd : Nat) (lt lr ld : List Int) (w : World) (hs : SpM w) (hL : Lists w (.slice At nt ct) (.slice Ar nr cr) (.slice Ad nd cd) lt lr ld) (hok : mapOk W H lt lr ld = false) :
    Calls Tryd.prog 20 #[mp W H (.slice At nt ct) (.slice Ar nr cr) (.slice Ad nd cd)] w fun e w' => e = .returned (.tuple #[.string ⟨#[]⟩, .bool false]) ∧ Kp w w' := by
  have KA : Kp w (w.alloc (.cells #[.int .i64 W, .int .i64 H, .slice At nt ct, .slice Ar nr cr, .slice Ad nd cd] 43)) := (Kp.refl w).alloc _
  have CG := isMap_any W H _ _ _ lt lr ld _ (hs.tab.keep KA) (hL.keep KA)
  rw [hok] at CG
  have HCG := Lib.hid CG
  clear hs hL hok CG
  go_enter Tryd.func20, Tryd.ntmps20
  go_wp2_with fail
  refine HCG.out.mono ?_
  rintro e1 w1 ⟨rfl, k1⟩
  go_wp2_with fail
  go_ret2
  exact ⟨rfl, KA.trans k1⟩
theorem implMapText_any (W H : Int) (At Ar Ad : Option Addr) (nt ct nr cr nd cd : Nat) (lt lr ld : List Int) (w : World) (hs : SpM w) (hL : Lists w (.slice At nt ct) (.slice Ar nr cr) (.slice Ad nd cd) lt lr ld) (hc1 : nt ≤ ct) (hc2 : ct ≤ 9223372036854775807) :
    Calls Tryd.prog 20 #[mp W H (.slice At nt ct) (.slice Ar nr cr) (.slice Ad nd cd)] w fun e w' => e = .returned (.tuple #[.string (mtT (mapOk W H lt lr ld) W H lt lr ld), .bool (mapOk W H lt lr ld)]) ∧ Kp w w' := by
  cases hok : mapOk W H lt lr ld
  · exact implMapText_no W H At Ar Ad nt ct nr cr nd cd lt lr ld w hs hL hok
  · obtain ⟨n, h, hsm⟩ := mapOk_sm hok
    obtain ⟨rfl, rfl, m1, m2, m3, m4, m5, m6⟩ := hsm
    exact implMapText_yes n h At Ar Ad nt ct nr cr nd cd lt lr ld w hs hL hc1 hc2 hok m1 m2 m3 m4 m5 m6
theorem own_cap {w : World} {base n c : Nat} {A : Option Addr} {l : List Int} (h : OwnI w base (.slice A n c) l) (hn : l.length = n) : n ≤ c ∧ c ≤ 9223372036854775807 := by
  have h2 := h.2
  rw [hn] at h2
  rcases h2 with ⟨e, h1⟩ | ⟨g, cap, cur, e1, _, _, h3, h4, _⟩
  · injection e with _ _ e3
    omega
  · injection e1 with _ _ e3
    unfold maxLen at h4
    omega

theorem edgG : Tryd.prog.globalNamed "loop.example/g00886/impl.edgeListNames" = some 1 := by kernel_rfl
theorem edgTy : (Tryd.prog.globals[1]?).map (·.type) = some 94 := by kernel_rfl
theorem mapText_of {W : World} (h : laidMetH Tryd.prog [("math/bits.deBruijn32tab", Rows.laid_math_bits_deBruijn32tab), ("math/bits.deBruijn64tab", Rows.laid_math_bits_deBruijn64tab), ("internal/strconv.uint64pow10", Rows.laid_internal_strconv_uint64pow10), ("loop.example/g00886/impl.directionSteps", Rows.laid_loop_example_g00886_impl_directionSteps), ("loop.example/g00886/impl.edgeListNames", Rows.laid_loop_example_g00886_impl_edgeListNames)] W) : SpM W := by
  refine ⟨mapText_tab h, mapText_pow h, ?_⟩
  have h' : laidMet Tryd.prog [("math/bits.deBruijn32tab", Rows.laid_math_bits_deBruijn32tab), ("math/bits.deBruijn64tab", Rows.laid_math_bits_deBruijn64tab), ("internal/strconv.uint64pow10", Rows.laid_internal_strconv_uint64pow10), ("loop.example/g00886/impl.directionSteps", Rows.laid_loop_example_g00886_impl_directionSteps), ("loop.example/g00886/impl.edgeListNames", Rows.laid_loop_example_g00886_impl_edgeListNames)] W := h
  obtain ⟨ps, hl, _⟩ := h'
  exact strs_of edgG edgTy Tryd.underlying94 rfl (laid_one hl (.tail _ (.tail _ (.tail _ (.tail _ (.head _))))))

end Go.Proofs.YtpdcmpojjchobaaDoor
