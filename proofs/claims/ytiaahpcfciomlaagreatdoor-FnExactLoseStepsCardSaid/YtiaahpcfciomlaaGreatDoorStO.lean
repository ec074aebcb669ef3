/-
  The laws' own functions on states: the size, the copy (in memory of its own), the comparison of two that read as the same list, the marks and the look at them; an argument that is a state reads as its list.
-/
import Derived.Test.YtiaahpcfciomlaaGreatDoorUnO
namespace Go.Proofs.YtiaahpcfciomlaaGreatDoor
open Go.ChangeShapes Go.WideShapes Go.ChangeAt Go.RowKit Go.Joins Go.Deep

abbrev sv (T Z : Int) (u : Value) : Value := .agg #[.int .i64 T, .int .i64 Z, u]
/-- What an argument's state is: a slice that reads as a list, within Go's own bounds; and the same, small. -/
structure StaIn (w : World) (u : Value) (us : List Uni) : Prop where
  rd : RdU w u us
  b : us.length ≤ 9223372036854775807
  i : ∀ x ∈ us, UniI x
structure StaAt (w : World) (u : Value) (us : List Uni) : Prop where
  rd : RdU w u us
  b : us.length ≤ 1048576
  i : ∀ x ∈ us, UniI x
theorem StaIn.keep {w w' : World} {u : Value} {us : List Uni} (h : StaIn w u us) (k : Kp w w') : StaIn w' u us := ⟨h.rd.keep k, h.b, h.i⟩
theorem StaAt.keep {w w' : World} {u : Value} {us : List Uni} (h : StaAt w u us) (k : Kp w w') : StaAt w' u us := ⟨h.rd.keep k, h.b, h.i⟩
theorem StaIn.at {w : World} {u : Value} {us : List Uni} (h : StaIn w u us) (s : us.length ≤ 1048576) : StaAt w u us := ⟨h.rd, s, h.i⟩
theorem OwnU.sta {w w0 : World} {base : Nat} {v u : Value} {l : List Uni} (h : OwnU w base v l) (s : StaAt w0 u l) : StaAt w v l := ⟨h.rd, s.b, s.i⟩

set_option maxRecDepth 100000 in
theorem szState_any (T Z : Int) (u : Value) (us : List Uni) (left : Int) (w : World) (h : StaIn w u us) (h0 : 0 ≤ left) (h1 : left ≤ 1048576) :
    Calls Tryz.prog 9 #[sv T Z u, .int .i64 left] w (SzPost (us.length ≤ 1048576) w) := by
  obtain ⟨A, cc, rfl, _⟩ := h.rd
  have hb := h.b
  generalize us.length = n at hb ⊢
  clear h
  by_cases a1 : (n : Int) ≤ left
  · have a2 : ¬ (left - n) < 0 := by omega
    go_enter Tryz.func9, Tryz.ntmps9
    go_wp2_with fail
    refine (szUnitS_yes _ _ _ _ _ a1 h0 h1).mono ?_
    rintro e1 w1 ⟨rfl, rfl⟩
    go_wp2_with fail
    go_ret
    exact ⟨_, rfl, by omega, by omega, fun _ => by omega, (Kp.refl w).alloc _⟩
  · go_enter Tryz.func9, Tryz.ntmps9
    go_wp2_with fail
    refine (szUnitS_no _ _ _ _ _ (by omega) h0 h1 hb).mono ?_
    rintro e1 w1 ⟨rfl, rfl⟩
    go_wp2_with fail
    go_ret
    exact ⟨_, rfl, by omega, by omega, fun h => absurd h (by omega), (Kp.refl w).alloc _⟩

abbrev LivS (w : World) (b : Nat) (v0 v1 v2 : Value) : Prop :=
  (w.cell? ⟨b, 0, none⟩ = some v0 ∧ w.frozen? ⟨b, 0, none⟩ = false) ∧ (w.cell? ⟨b, 1, none⟩ = some v1 ∧ w.frozen? ⟨b, 1, none⟩ = false) ∧ (w.cell? ⟨b, 2, none⟩ = some v2 ∧ w.frozen? ⟨b, 2, none⟩ = false)
theorem livS_keep {w w' : World} {b : Nat} {v0 v1 v2 : Value} (k : Kp w w') (h : LivS w b v0 v1 v2) : LivS w' b v0 v1 v2 := ⟨k.liv h.1, k.liv h.2.1, k.liv h.2.2⟩

set_option maxRecDepth 100000 in
set_option maxHeartbeats 2000000 in
theorem toState_any (T Z : Int) (u : Value) (us : List Uni) (n : Nat) (w : World) (h : StaAt w u us) (hn : us.length = n) :
    Calls Tryz.prog 12 #[sv T Z u] w fun e w' => ∃ g, e = .returned (sv T Z (.slice (some ⟨g, 0, none⟩) n n)) ∧ OwnU w' w.heap.size (.slice (some ⟨g, 0, none⟩) n n) us ∧ Kp w w' := by
  have HL := Lib.hid h
  have hb := h.b
  obtain ⟨A, cc, rfl, _⟩ := h.rd
  have C : Hid (∀ w, RdU w (.slice A us.length cc) us → Calls Tryz.prog 36 #[.slice A us.length cc] w fun e w' => ∃ g, e = .returned (.slice (some ⟨g, 0, none⟩) n n) ∧ OwnU w' w.heap.size (.slice (some ⟨g, 0, none⟩) n n) us ∧ Kp w w') := Lib.hid fun w h => by
    have := toUnitS_any _ us w h hb
    rw [hn] at this
    rw [hn]
    exact this
  rw [hn] at HL C ⊢
  clear h hn
  go_enter Tryz.func12, Tryz.ntmps12
  go_wp2_with fail
  have k0 : Kp w (((w.alloc (.cells #[.int .i64 T, .int .i64 Z, .slice A n cc] 33)).alloc (.cells #[.int .i64 0, .int .i64 0, .slice none 0 0] 48)).alloc (.cells #[.int .i64 T, .int .i64 Z, .slice none 0 0] 48)) := (((Kp.refl w).alloc _).alloc _).alloc _
  refine (C.out _ (HL.out.keep k0).rd).mono ?_
  rintro e1 w1 ⟨g1, rfl, o1, k1⟩
  have L1 : LivS w1 (w.heap.size + 1) (.int .i64 0) (.int .i64 0) (.slice none 0 0) := livS_keep k1 ⟨by simp [go_sem], by simp [go_sem], by simp [go_sem]⟩
  have M1 : LivS w1 (w.heap.size + 1 + 1) (.int .i64 T) (.int .i64 Z) (.slice none 0 0) := livS_keep k1 ⟨by simp [go_sem], by simp [go_sem], by simp [go_sem]⟩
  have K1 : Kp w w1 := k0.trans k1
  have O1 := Lib.hid (o1.base (b := w.heap.size + 3) (by simp <;> omega))
  clear k0 k1 o1
  go_wp2_with fail
  refine bodyPost_ret (v := sv T Z (.slice (some ⟨g1, 0, none⟩) n n)) (by simp [results, Tryz.results12, go_sem, *]) rfl ⟨_, rfl, ?_, ?_⟩
  · have n1 := O1.out.not (g := w.heap.size + 1) (by omega)
    have n2 := O1.out.not (g := w.heap.size + 1 + 1) (by omega)
    exact ((((O1.out.far n2 _).far n1 _).far n1 _).far n1 _).base (by omega)
  · exact (((K1.setCell (by simp <;> omega) _).setCell (by simp <;> omega) _).setCell (by simp <;> omega) _).setCell (by simp <;> omega) _

set_option maxRecDepth 100000 in
theorem eqState_same (T Z : Int) (u u' : Value) (us : List Uni) (w : World) (h : StaAt w u us) (h' : StaAt w u' us) :
    Calls Tryz.prog 16 #[sv T Z u, sv T Z u'] w fun e w' => e = .returned (.bool true) ∧ Kp w w' := by
  have KA : Kp w ((w.alloc (.cells #[.int .i64 T, .int .i64 Z, u] 48)).alloc (.cells #[.int .i64 T, .int .i64 Z, u'] 48)) := ((Kp.refl w).alloc _).alloc _
  have H1 := Lib.hid (h.keep KA)
  have H2 := Lib.hid (h'.keep KA)
  have e1 : (T != T) = false := by simp
  have e2 : (Z != Z) = false := by simp
  clear h h'
  go_enter Tryz.func16, Tryz.ntmps16
  go_wp2_with fail
  refine (eqUnitS_same _ _ us _ H1.out.rd H2.out.rd H1.out.b).mono ?_
  rintro x1 w1 ⟨rfl, k1⟩
  go_wp2_with fail
  go_ret
  exact ⟨rfl, KA.trans k1⟩

set_option maxRecDepth 100000 in
theorem markState_own (T Z : Int) (v : Value) (n base hi : Nat) (k0 : Int) (xs : List Value) (w : World) (h0 : 0 ≤ k0) (h1 : k0 ≤ 100000000000000) (hn : n ≤ 1048576) (hown : w.ownsRow base 67 4 v n xs) (hlo : base ≤ w.heap.size) (hhi : ∀ g, v.ownBlock = some g → g < hi) :
    Calls Tryz.prog 18 #[sv T Z v, .int .i64 k0] w fun e w' => e = .returned (.int .i64 (k0 + 4 * n)) ∧ w'.ownsRow base 67 4 v n (marks k0 (n * 4)) ∧ Mk base hi w w' := by
  have KA : Kp w (w.alloc (.cells #[.int .i64 T, .int .i64 Z, v] 48)) := (Kp.refl w).alloc _
  have HO := Lib.hid (ownsRow_keep hown KA)
  have M0 : Hid (Mk base hi w (w.alloc (.cells #[.int .i64 T, .int .i64 Z, v] 48))) := Lib.hid (Mk.of_kp KA hlo)
  have HI : Hid (∀ k, v.ownBlock = some k → base ≤ k ∧ k < hi) := Lib.hid fun k e => ⟨(World.ownsRow.lt hown k e).1, hhi k e⟩
  have hz : base ≤ (w.alloc (.cells #[.int .i64 T, .int .i64 Z, v] 48)).heap.size := by simp; omega
  clear hown hhi
  go_enter Tryz.func18, Tryz.ntmps18
  go_wp2_with fail
  refine (markUnitS_own v n base k0 xs _ h0 (by omega) hn HO.out).mono ?_
  rintro e1 w1 ⟨rfl, o1, g1⟩
  have O1 := Lib.hid o1
  have M1 := Lib.hid (M0.out.grown g1 hz HI.out)
  clear o1 g1
  go_wp2_with fail
  go_ret
  exact ⟨rfl, O1.out, M1.out⟩

set_option maxRecDepth 100000 in
theorem heldState_own (T Z : Int) (v : Value) (n base : Nat) (k0 : Int) (w : World) (h0 : 0 ≤ k0) (h1 : k0 ≤ 100000000000000) (hn : n ≤ 1048576) (hown : w.ownsRow base 67 4 v n (marks k0 (n * 4))) :
    Calls Tryz.prog 25 #[sv T Z v, .int .i64 k0] w fun e w' => e = .returned (.int .i64 (k0 + 4 * n)) ∧ Kp w w' := by
  have KA : Kp w (w.alloc (.cells #[.int .i64 T, .int .i64 Z, v] 48)) := (Kp.refl w).alloc _
  have HO := Lib.hid (ownsRow_keep hown KA)
  have hneg : ¬ (k0 + 4 * (n : Int)) < 0 := by omega
  clear hown
  go_enter Tryz.func25, Tryz.ntmps25
  go_wp2_with fail
  refine (heldUnitS_own v n base k0 _ h0 (by omega) hn HO.out).mono ?_
  rintro e1 w1 ⟨rfl, rfl⟩
  go_wp2_with fail
  go_ret
  exact ⟨rfl, KA⟩

theorem cellsSta : Tryz.prog.cellsOf 33 = 3 := by kernel_rfl
theorem threeS {α : Type} {l : List α} (h : l.length = 3) {a b c : α} (h0 : l[0]? = some a) (h1 : l[1]? = some b) (h2 : l[2]? = some c) : l = [a, b, c] := by
  match l, h with
  | [x0, x1, x2], _ => simp_all
set_option maxRecDepth 100000 in
/-- An argument of type State: two numbers and a list. -/
theorem open_state {H : Type} {enc : TypeId × Value → H} {W : World} {base : Nat} {v : Value} {d : DataW H} {p : List MemPlace}
    (hv : Value.okWide Tryz.prog W .any base 33 v) (h : DataW.Trod enc Tryz.prog W 0 (fun _ => true) true 33 v d p) :
    ∃ (T Z : Int) (u : Value) (us : List Uni), v = sv T Z u ∧ StaIn W u us ∧ isI64 T ∧ isI64 Z := by
  obtain ⟨cs, n, rfl, hl, hf⟩ := open_fields Tryz.underlying33 (by kernel_rfl) cellsSta rfl hv h
  obtain ⟨c0, y0, q0, h0⟩ := hf 0 _ rfl
  obtain ⟨c1, y1, q1, h1⟩ := hf 1 _ rfl
  obtain ⟨c2, y2, q2, h2⟩ := hf 2 _ rfl
  obtain rfl := threeS hl q0 q1 q2
  obtain ⟨T, e0, rfl, wT⟩ := DataW.trod_int Tryz.underlying3 h0
  obtain ⟨Z, e1, rfl, wZ⟩ := DataW.trod_int Tryz.underlying3 h1
  obtain ⟨us, s1, s2, s3⟩ := rdU_of_trod h2
  simp only [List.cons.injEq, and_true] at e0 e1
  subst e0 e1
  exact ⟨T, Z, c2, us, rfl, ⟨s1, s2, s3⟩, bounds_i64 wT, bounds_i64 wZ⟩

end Go.Proofs.YtiaahpcfciomlaaGreatDoor
