/-
  The laws' own functions on states: the size, the copy (in memory of its own), the comparison of two that read as the same list, the marks and the look at them; an argument that is a state reads as its list.
-/
import Derived.Test.YtiaahpcfciomlaaDoorUnO
namespace Go.Proofs.YtiaahpcfciomlaaDoor
open Go.ChangeShapes Go.WideShapes Go.ChangeAt Go.RowKit Go.Joins Go.Deep

abbrev sv (T Z : Int) (u : Value) : Value := .agg #[.int .i64 T, .int .i64 Z, u]
/-- What an argument's state is: a slice that reads as a list, within Go's own bounds; and the same, small. -/
structure StaIn (w : World) (u : Value) (us : List Uni) : Prop where
  rd : RdU w u us
  b : us.length ≤ 9223372036854775807
  i : ∀ x ∈ us, UniI x
structure StaAt (w : World) (u : Value) (us : List Uni) : Prop where
  rd : RdU w u us
  b : us.length ≤ 1048576
  i : ∀ x ∈ us, UniI x
theorem StaIn.keep {w w' : World} {u : Value} {us : List Uni} (h : StaIn w u us) (k : Kp w w') : StaIn w' u us := ⟨h.rd.keep k, h.b, h.i⟩
theorem StaAt.keep {w w' : World} {u : Value} {us : List Uni} (h : StaAt w u us) (k : Kp w w') : StaAt w' u us := ⟨h.rd.keep k, h.b, h.i⟩
theorem StaIn.at {w : World} {u : Value} {us : List Uni} (h : StaIn w u us) (s : us.length ≤ 1048576) : StaAt w u us := ⟨h.rd, s, h.i⟩
theorem OwnU.sta {w w0 : World} {base : Nat} {v u : Value} {l : List Uni} (h : OwnU w base v l) (s : StaAt w0 u l) : StaAt w v l := ⟨h.rd, s.b, s.i⟩

set_option maxRecDepth 100000 in
theorem szState_any (T Z : Int) (u : Value) (us : List Uni) (left : Int) (w : World) (h : StaIn w u us) (h0 : 0 ≤ left) (h1 : left ≤ 1048576) :
    Calls Tryd.prog 9 #[sv T Z u, .int .i64 left] w (SzPost (us.length ≤ 1048576) w) := by
  obtain ⟨A, cc, rfl, _⟩ := h.rd
  have hb := h.b
  generalize us.length = n at hb ⊢
  clear h
  by_cases a1 : (n : Int) ≤ left
  · have a2 : ¬ (left - n) < 0 := by omega
    go_enter Tryd.func9, Tryd.ntmps9
    go_wp2_with fail
    refine (szUnitS_yes _ _ _ _ _ a1 h0 h1).mono ?_
    rintro e1 w1 ⟨rfl, rfl⟩
    go_wp2_with fail
    go_ret
    exact ⟨_, rfl, by omega, by omega, fun _ => by omega, (Kp.refl w).alloc _⟩
  · go_enter Tryd.func9, Tryd.ntmps9
    go_wp2_with fail
    refine (szUnitS_no _ _ _ _ _ (by omega) h0 h1 hb).mono ?_
    rintro e1 w1 ⟨rfl, rfl⟩
    go_wp2_with fail
    go_ret
    exact ⟨_, rfl, by omega, by omega, fun h => absurd h (by omega), (Kp.refl w).alloc _⟩

abbrev LivS (w : World) (b : Nat) (v0 v1 v2 : Value) : Prop :=
  (w.cell? ⟨b, 0, none⟩ = some v0 ∧ w.frozen? ⟨b, 0, none⟩ = false) ∧ (w.cell? ⟨b, 1, none⟩ = some v1 ∧ w.frozen? ⟨b, 1, none⟩ = false) ∧ (w.cell? ⟨b, 2, none⟩ = some v2 ∧ w.frozen? ⟨b, 2, none⟩ = false)
theorem livS_keep {w w' : World} {b : Nat} {v0 v1 v2 : Value} (k : Kp w w') (h : LivS w b v0 v1 v2) : LivS w' b v0 v1 v2 := ⟨k.liv h.1, k.liv h.2.1, k.liv h.2.2⟩

set_option maxRecDepth 100000 in
set_option maxHeartbeats 2000000 in
theorem toState_any (T Z : Int) (u : Value) (us : List Uni) (n : Nat) (w : World) (h : StaAt w u us) (hn : us.length = n) :
    Calls Tryd.prog 12 #[sv T Z u] w fun e w' => ∃ g, e = .returned (sv T Z (.slice (some ⟨g, 0, none⟩) n n)) ∧ OwnU w' w.heap.size (.slice (some ⟨g, 0, none⟩) n n) us ∧ Kp w w' := by
  have HL := Lib.hid h
  have hb := h.b
  obtain ⟨A, cc, rfl, _⟩ := h.rd
  have C : Hid (∀ w, RdU w (.slice A us.length cc) us → Calls Tryd.prog 31 #[.slice A us.length cc] w fun e w' => ∃ g, e = .returned (.slice (some ⟨g, 0, none⟩) n n) ∧ OwnU w' w.heap.size (.slice (some ⟨g, 0, none⟩) n n) us ∧ Kp w w') := Lib.hid fun w h => by
    have := toUnitS_any _ us w h hb
    rw [hn] at this
    rw [hn]
    exact this
  rw [hn] at HL C ⊢
  clear h hn
  go_enter Tryd.func12, Tryd.ntmps12
  go_wp2_with fail
  have k0 : Kp w (((w.alloc (.cells #[.int .i64 T, .int .i64 Z, .slice A n cc] 33)).alloc (.cells #[.int .i64 0, .int .i64 0, .slice none 0 0] 48)).alloc (.cells #[.int .i64 T, .int .i64 Z, .slice none 0 0] 48)) := (((Kp.refl w).alloc _).alloc _).alloc _
  refine (C.out _ (HL.out.keep k0).rd).mono ?_
  rintro e1 w1 ⟨g1, rfl, o1, k1⟩
  have L1 : LivS w1 (w.heap.size + 1) (.int .i64 0) (.int .i64 0) (.slice none 0 0) := livS_keep k1 ⟨by simp [go_sem], by simp [go_sem], by simp [go_sem]⟩
  have M1 : LivS w1 (w.heap.size + 1 + 1) (.int .i64 T) (.int .i64 Z) (.slice none 0 0) := livS_keep k1 ⟨by simp [go_sem], by simp [go_sem], by simp [go_sem]⟩
  have K1 : Kp w w1 := k0.trans k1
  have O1 := Lib.hid (o1.base (b := w.heap.size + 3) (by simp <;> omega))
  clear k0 k1 o1
  go_wp2_with fail
  refine bodyPost_ret (v := sv T Z (.slice (some ⟨g1, 0, none⟩) n n)) (by simp [results, Tryd.results12, go_sem, *]) rfl ⟨_, rfl, ?_, ?_⟩
  · have n1 := O1.out.not (g := w.heap.size + 1) (by omega)
    have n2 := O1.out.not (g := w.heap.size + 1 + 1) (by omega)
    exact ((((O1.out.far n2 _).far n1 _).far n1 _).far n1 _).base (by omega)
  · exact (((K1.setCell (by simp <;> omega) _).setCell (by simp <;> omega) _).setCell (by simp <;> omega) _).setCell (by simp <;> omega) _

set_option maxRecDepth 100000 in
theorem eqState_same (T Z : Int) (u u' : Value) (us : List Uni) (w : World) (h : StaAt w u us) (h' : StaAt w u' us) :
    Calls Tryd.prog 15 #[sv T Z u, sv T Z u'] w fun e w' => e = .returned (.bool true) ∧ Kp w w' := by
  have KA : Kp w ((w.alloc (.cells #[.int .i64 T, .int .i64 Z, u] 48)).alloc (.cells #[.int .i64 T, .int .i64 Z, u'] 48)) := ((Kp.refl w).alloc _).alloc _
  have H1 := Lib.hid (h.keep KA)
  have H2 := Lib.hid (h'.keep KA)
  have e1 : (T != T) = false := by simp
  have e2 : (Z != Z) = false := by simp
  clear h h'
  go_enter Tryd.func15, Tryd.ntmps15
  go_wp2_with fail
  refine (eqUnitS_same _ _ us _ H1.out.rd H2.out.rd H1.out.b).mono ?_
  rintro x1 w1 ⟨rfl, k1⟩
  go_wp2_with fail
  go_ret
  exact ⟨rfl, KA.trans k1⟩

theorem cellsSta : Tryd.prog.cellsOf 33 = 3 := by kernel_rfl
theorem threeS {α : Type} {l : List α} (h : l.length = 3) {a b c : α} (h0 : l[0]? = some a) (h1 : l[1]? = some b) (h2 : l[2]? = some c) : l = [a, b, c] := by
  match l, h with
  | [x0, x1, x2], _ => simp_all
set_option maxRecDepth 100000 in
/-- An argument of type State: two numbers and a list. -/
theorem open_state {H : Type} {enc : TypeId × Value → H} {W : World} {base : Nat} {v : Value} {d : DataW H} {p : List MemPlace}
    (hv : Value.okWide Tryd.prog W .any base 33 v) (h : DataW.Trod enc Tryd.prog W 0 (fun _ => true) true 33 v d p) :
    ∃ (T Z : Int) (u : Value) (us : List Uni), v = sv T Z u ∧ StaIn W u us ∧ isI64 T ∧ isI64 Z := by
  obtain ⟨cs, n, rfl, hl, hf⟩ := open_fields Tryd.underlying33 (by kernel_rfl) cellsSta rfl hv h
  obtain ⟨c0, y0, q0, h0⟩ := hf 0 _ rfl
  obtain ⟨c1, y1, q1, h1⟩ := hf 1 _ rfl
  obtain ⟨c2, y2, q2, h2⟩ := hf 2 _ rfl
  obtain rfl := threeS hl q0 q1 q2
  obtain ⟨T, e0, rfl, wT⟩ := DataW.trod_int Tryd.underlying3 h0
  obtain ⟨Z, e1, rfl, wZ⟩ := DataW.trod_int Tryd.underlying3 h1
  obtain ⟨us, s1, s2, s3⟩ := rdU_of_trod h2
  simp only [List.cons.injEq, and_true] at e0 e1
  subst e0 e1
  exact ⟨T, Z, c2, us, rfl, ⟨s1, s2, s3⟩, bounds_i64 wT, bounds_i64 wZ⟩

end Go.Proofs.YtiaahpcfciomlaaDoor
