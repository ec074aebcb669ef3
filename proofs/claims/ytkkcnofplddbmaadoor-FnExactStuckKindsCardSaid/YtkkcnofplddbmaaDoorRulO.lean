/-
  An argument of type Rules reads as two lists and five numbers.
-/
import Derived.Test.YtkkcnofplddbmaaDoorRulL
import Derived.Test.YtkkcnofplddbmaaDoorRulC
import Derived.Test.YtkkcnofplddbmaaDoorMapW
import Derived.Deep.Slices
namespace Go.Proofs.YtkkcnofplddbmaaDoor
open Go.ChangeShapes Go.WideShapes Go.ChangeAt Go.RowKit Go.Joins Go.Deep

/-- The cells of a struct whose fields take one cell each, read one by one. -/
theorem fields_of_trod {H : Type} {enc : TypeId × Value → H} {P : Program} {w : World} {base n0 fuel : Nat} {spare : Nat → Bool} {held : Bool} {t : TypeId} {fs : Array Field} {cs : List Value} {x : DataW H × List MemPlace}
    (hs : P.underlying t = some (.struct fs)) (hone : Go.Deep.oneCellFields P fs = true) (hn : fs.size = n0) (hl : cs.length = n0) (hf : DataW.trod enc P w base spare held fuel t cs = some x) :
    ∃ n : Nat, ∀ (j : Nat) (f : Field), fs[j]? = some f → ∃ c y, cs[j]? = some c ∧ DataW.trod enc P w base spare held n f.type [c] = some y := by
  obtain ⟨xs, n, _, _, _, hlen, hg⟩ := DataW.trod_struct hs hf
  refine ⟨n, fun j f hj => ?_⟩
  have hjl : j < fs.size := (Array.getElem?_eq_some_iff.1 hj).1
  obtain ⟨o, k⟩ := Go.Deep.hone_of hone j f hj
  have h1 := hg j f hj
  rw [o, k] at h1
  have e : (cs.drop j).take 1 = [cs[j]'(by omega)] := by
    rw [List.drop_eq_getElem_cons (by omega)]
    rfl
  rw [e] at h1
  exact ⟨_, _, List.getElem?_eq_getElem (by omega), h1.trans (List.getElem?_eq_getElem (by omega))⟩

theorem add_none' (b off k : Nat) : (⟨b, off, none⟩ : Addr).add k = ⟨b, off + k, none⟩ := by
  unfold Addr.add
  split
  · rename_i h
    simp_all
  · rfl
theorem RdI.shape {w : World} {v : Value} {l : List Int} (h : RdI w v l) : ∃ A c, v = .slice A l.length c := by
  obtain ⟨A, c, e, _⟩ := h
  exact ⟨A, c, e⟩

/-- A slice of structs of sz cells each reads as a list, where each element's cells do. -/
theorem rd_structs {α : Type} {H : Type} {enc : TypeId × Value → H} {W : World} {t e : TypeId} {sz fuel : Nat} {v : Value} {y : DataW H × List MemPlace} (At : Nat → Nat → α → Prop) (hsz : Tryd.prog.cellsOf e = sz)
    (ht : Tryd.prog.underlying t = some (.slice e)) (hf : DataW.trod enc Tryd.prog W 0 (fun _ => true) true fuel t [v] = some y)
    (one : ∀ (a : Addr) (fu : Nat) (cs : List Value) (x : DataW H × List MemPlace), cs.length = sz → (∀ j, j < sz → W.cell? (a.add j) = cs[j]?) → DataW.trod enc Tryd.prog W 0 (fun _ => true) true fu e cs = some x → a.spot = none ∧ ∃ z : α, At a.block a.off z) :
    ∃ (A : Option Addr) (n c : Nat) (l : List α), v = .slice A n c ∧ l.length = n ∧ n ≤ maxLen ∧ (0 < n → ∃ g off, A = some ⟨g, off, none⟩ ∧ ∀ i x, l[i]? = some x → At g (off + i * sz) x) := by
  rcases open_slice ht hf with ⟨hcs, _⟩ | ⟨a, len, cap, m, n, D, Pl, hcs, _, hl, hm, hmm, _, hi⟩
  · simp only [List.cons.injEq, and_true] at hcs
    exact ⟨none, 0, 0, [], hcs, rfl, by decide, fun h => absurd h (by omega)⟩
  · simp only [List.cons.injEq, and_true] at hcs
    have hmc : m = cap := by simpa using hmm
    have each : ∀ i, i < len → (a.add (i * sz)).spot = none ∧ ∃ z : α, At (a.add (i * sz)).block (a.add (i * sz)).off z := by
      intro i hil
      obtain ⟨cs', hc, ht'⟩ := hi i (by omega)
      rw [hsz] at hc
      obtain ⟨_, hcl, hat⟩ := World.cells?_some hc
      exact one _ _ cs' _ hcl (fun j hj => hat j hj) ht'
    rcases Nat.eq_zero_or_pos len with rfl | hpos
    · exact ⟨some a, 0, cap, [], hcs, rfl, by omega, fun h => absurd h (by omega)⟩
    · obtain ⟨b, off, spot⟩ := a
      have hspot : spot = none := by
        have := (each 0 hpos).1
        simpa [Addr.add] using this
      subst hspot
      let l : List α := (List.range len).attach.map fun i => (each i.1 (List.mem_range.1 i.2)).2.choose
      have hll : l.length = len := by simp [l]
      refine ⟨_, len, cap, l, hcs, hll, by omega, fun _ => ⟨b, off, rfl, fun i x hx => ?_⟩⟩
      have hil : i < len := by have := (List.getElem?_eq_some_iff.1 hx).1; omega
      have hs := (each i hil).2.choose_spec
      have key : ∀ (A : Addr) (z : α), A = ⟨b, off + i * sz, none⟩ → At A.block A.off z → At b (off + i * sz) z := by
        rintro _ _ rfl h
        exact h
      have hx' : x = (each i hil).2.choose := by
        obtain ⟨hi2, rfl⟩ := List.getElem?_eq_some_iff.1 hx
        simp [l]
      rw [hx']
      exact key _ _ (add_none' b off (i * sz)) hs

theorem RulIn.keep {w w' : World} {At Ak : Option Addr} {nt nk : Nat} {l : List Ter} {m : List Knd} (h : RulIn w At Ak nt nk l m) (k : Kp w w') : RulIn w' At Ak nt nk l m :=
  ⟨h.rt.keep k, h.rk.keep k, h.bt, h.bk, h.bc, h.bn⟩

theorem cellsTer : Tryd.prog.cellsOf 105 = 5 := by kernel_rfl
theorem cellsKnd : Tryd.prog.cellsOf 107 = 6 := by kernel_rfl
theorem cellsRul : Tryd.prog.cellsOf 25 = 7 := by kernel_rfl

set_option maxRecDepth 100000 in
theorem rdT_of_trod {H : Type} {enc : TypeId × Value → H} {W : World} {v : Value} {n : Nat} {y : DataW H × List MemPlace}
    (hf : DataW.trod enc Tryd.prog W 0 (fun _ => true) true n 22 [v] = some y) : ∃ (A : Option Addr) (n c : Nat) (l : List Ter), v = .slice A n c ∧ RdT W A n l ∧ n ≤ 9223372036854775807 ∧ (∀ x ∈ l, x.cost.length ≤ 9223372036854775807 ∧ x.name.size ≤ 9223372036854775807) ∧ ∀ x ∈ l, ∀ z ∈ x.cost, -9223372036854775808 ≤ z ∧ z ≤ 9223372036854775807 := by
  obtain ⟨A, n, c, l, rfl, hl, hm, hr⟩ := rd_structs (α := Ter) (fun g o x => TerAt W g o x ∧ (x.cost.length ≤ 9223372036854775807 ∧ x.name.size ≤ 9223372036854775807) ∧ ∀ z ∈ x.cost, -9223372036854775808 ≤ z ∧ z ≤ 9223372036854775807) cellsTer Tryd.underlying22 hf (fun a fu cs x hcl hat hx => by
    obtain ⟨k, hk⟩ := fields_of_trod Tryd.underlying105 (by kernel_rfl) rfl hcl hx
    obtain ⟨c0, y0, q0, h0⟩ := hk 0 _ rfl
    obtain ⟨c1, y1, q1, h1⟩ := hk 1 _ rfl
    obtain ⟨c2, y2, q2, h2⟩ := hk 2 _ rfl
    obtain ⟨c3, y3, q3, h3⟩ := hk 3 _ rfl
    obtain ⟨c4, y4, q4, h4⟩ := hk 4 _ rfl
    obtain ⟨s, e0, _, ws⟩ := DataW.trod_string Tryd.underlying9 h0
    obtain ⟨lc, r1, r2, r3⟩ := rdB_of_trod h1
    obtain ⟨z2, e2, _, w2⟩ := DataW.trod_int Tryd.underlying3 h2
    obtain ⟨z3, e3, _, w3⟩ := DataW.trod_int Tryd.underlying3 h3
    obtain ⟨z4, e4, _⟩ := DataW.trod_bool Tryd.underlying4 h4
    simp only [List.cons.injEq, and_true] at e0 e2 e3 e4
    subst e0 e2 e3 e4
    have g0 := (hat 0 (by omega)).trans q0
    have g1 := (hat 1 (by omega)).trans q1
    have g2 := (hat 2 (by omega)).trans q2
    have g3 := (hat 3 (by omega)).trans q3
    have g4 := (hat 4 (by omega)).trans q4
    obtain ⟨b, off, spot⟩ := a
    have hspot : spot = none := by
      have := World.cell?_spot g0
      simpa [Addr.add] using this
    subst hspot
    rw [add_none'] at g0 g1 g2 g3 g4
    obtain ⟨A1, c1', rfl⟩ := r1.shape
    unfold maxLen at ws
    exact ⟨rfl, ⟨s, lc, z2, z3, z4⟩, ⟨A1, c1', ⟨g0, g1, g2, g3, g4⟩, r1⟩, ⟨r2, by simp only; omega⟩, r3⟩)
  have mem : ∀ x ∈ l, ∃ g o, TerAt W g o x ∧ (x.cost.length ≤ 9223372036854775807 ∧ x.name.size ≤ 9223372036854775807) ∧ ∀ z ∈ x.cost, -9223372036854775808 ≤ z ∧ z ≤ 9223372036854775807 := fun x hx => by
    obtain ⟨i, hi, rfl⟩ := List.mem_iff_getElem.1 hx
    obtain ⟨g, off, rfl, hc⟩ := hr (by omega)
    exact ⟨_, _, hc i _ (List.getElem?_eq_getElem hi)⟩
  unfold maxLen at hm
  refine ⟨A, n, c, l, rfl, ⟨hl, fun h0 => ?_⟩, by omega, fun x hx => ?_, fun x hx => ?_⟩
  · obtain ⟨g, off, e, hc⟩ := hr h0
    exact ⟨g, off, e, fun i x hx => (hc i x hx).1⟩
  · obtain ⟨_, _, _, h, _⟩ := mem x hx
    exact h
  · obtain ⟨_, _, _, _, h⟩ := mem x hx
    exact h

set_option maxRecDepth 100000 in
theorem rdK_of_trod {H : Type} {enc : TypeId × Value → H} {W : World} {v : Value} {n : Nat} {y : DataW H × List MemPlace}
    (hf : DataW.trod enc Tryd.prog W 0 (fun _ => true) true n 23 [v] = some y) : ∃ (A : Option Addr) (n c : Nat) (l : List Knd), v = .slice A n c ∧ RdK W A n l ∧ n ≤ 9223372036854775807 ∧ ∀ x ∈ l, x.name.size ≤ 9223372036854775807 := by
  obtain ⟨A, n, c, l, rfl, hl, hm, hr⟩ := rd_structs (α := Knd) (fun g o x => KndAt W g o x ∧ x.name.size ≤ 9223372036854775807) cellsKnd Tryd.underlying23 hf (fun a fu cs x hcl hat hx => by
    obtain ⟨k, hk⟩ := fields_of_trod Tryd.underlying107 (by kernel_rfl) rfl hcl hx
    obtain ⟨c0, y0, q0, h0⟩ := hk 0 _ rfl
    obtain ⟨c1, y1, q1, h1⟩ := hk 1 _ rfl
    obtain ⟨c2, y2, q2, h2⟩ := hk 2 _ rfl
    obtain ⟨c3, y3, q3, h3⟩ := hk 3 _ rfl
    obtain ⟨c4, y4, q4, h4⟩ := hk 4 _ rfl
    obtain ⟨c5, y5, q5, h5⟩ := hk 5 _ rfl
    obtain ⟨s, e0, _, ws⟩ := DataW.trod_string Tryd.underlying9 h0
    obtain ⟨z1, e1, _, w1⟩ := DataW.trod_int Tryd.underlying3 h1
    obtain ⟨z2, e2, _, w2⟩ := DataW.trod_int Tryd.underlying3 h2
    obtain ⟨z3, e3, _, w3⟩ := DataW.trod_int Tryd.underlying3 h3
    obtain ⟨z4, e4, _⟩ := DataW.trod_bool Tryd.underlying4 h4
    obtain ⟨z5, e5, _, w5⟩ := DataW.trod_int Tryd.underlying3 h5
    simp only [List.cons.injEq, and_true] at e0 e1 e2 e3 e4 e5
    subst e0 e1 e2 e3 e4 e5
    have g0 := (hat 0 (by omega)).trans q0
    have g1 := (hat 1 (by omega)).trans q1
    have g2 := (hat 2 (by omega)).trans q2
    have g3 := (hat 3 (by omega)).trans q3
    have g4 := (hat 4 (by omega)).trans q4
    have g5 := (hat 5 (by omega)).trans q5
    obtain ⟨b, off, spot⟩ := a
    have hspot : spot = none := by
      have := World.cell?_spot g0
      simpa [Addr.add] using this
    subst hspot
    rw [add_none'] at g0 g1 g2 g3 g4 g5
    unfold maxLen at ws
    exact ⟨rfl, ⟨s, z1, z2, z3, z4, z5⟩, ⟨g0, g1, g2, g3, g4, g5⟩, by simp only; omega⟩)
  unfold maxLen at hm
  refine ⟨A, n, c, l, rfl, ⟨hl, fun h0 => ?_⟩, by omega, fun x hx => ?_⟩
  · obtain ⟨g, off, e, hc⟩ := hr h0
    exact ⟨g, off, e, fun i x hx => (hc i x hx).1⟩
  · obtain ⟨i, hi, rfl⟩ := List.mem_iff_getElem.1 hx
    obtain ⟨g, off, rfl, hc⟩ := hr (by omega)
    exact (hc i _ (List.getElem?_eq_getElem hi)).2

theorem seven {α : Type} {l : List α} (h : l.length = 7) {a b c d e f g : α} (h0 : l[0]? = some a) (h1 : l[1]? = some b) (h2 : l[2]? = some c) (h3 : l[3]? = some d) (h4 : l[4]? = some e) (h5 : l[5]? = some f) (h6 : l[6]? = some g) : l = [a, b, c, d, e, f, g] := by
  match l, h with
  | [x0, x1, x2, x3, x4, x5, x6], _ => simp_all

set_option maxRecDepth 100000 in
/-- Seven cells that read as rules. -/
theorem rules_cells {H : Type} {enc : TypeId × Value → H} {W : World} {cs : List Value} {n : Nat} (hl : cs.length = 7)
    (hf : ∀ (j : Nat) (f : Field), (match Tryd.prog.underlying 25 with | some (.struct fs) => fs | _ => #[])[j]? = some f → ∃ c y, cs[j]? = some c ∧ DataW.trod enc Tryd.prog W 0 (fun _ => true) true n f.type [c] = some y) :
    ∃ (At Ak : Option Addr) (nt nk ct ck : Nat) (l : List Ter) (m : List Knd) (a b c d e : Int), cs = [.slice At nt ct, .slice Ak nk ck, .int .i64 a, .int .i64 b, .int .i64 c, .int .i64 d, .int .i64 e] ∧ RulIn W At Ak nt nk l m ∧ ∀ x ∈ l, ∀ z ∈ x.cost, -9223372036854775808 ≤ z ∧ z ≤ 9223372036854775807 := by
  rw [Tryd.underlying25] at hf
  obtain ⟨c0, y0, q0, h0⟩ := hf 0 _ rfl
  obtain ⟨c1, y1, q1, h1⟩ := hf 1 _ rfl
  obtain ⟨c2, y2, q2, h2⟩ := hf 2 _ rfl
  obtain ⟨c3, y3, q3, h3⟩ := hf 3 _ rfl
  obtain ⟨c4, y4, q4, h4⟩ := hf 4 _ rfl
  obtain ⟨c5, y5, q5, h5⟩ := hf 5 _ rfl
  obtain ⟨c6, y6, q6, h6⟩ := hf 6 _ rfl
  obtain rfl := seven hl q0 q1 q2 q3 q4 q5 q6
  obtain ⟨At, nt, ct, l, rfl, r1, r2, r3, r4⟩ := rdT_of_trod h0
  obtain ⟨Ak, nk, ck, m, rfl, s1, s2, s3⟩ := rdK_of_trod h1
  obtain ⟨a, e2, _, _⟩ := DataW.trod_int Tryd.underlying3 h2
  obtain ⟨b, e3, _, _⟩ := DataW.trod_int Tryd.underlying3 h3
  obtain ⟨c, e4, _, _⟩ := DataW.trod_int Tryd.underlying3 h4
  obtain ⟨d, e5, _, _⟩ := DataW.trod_int Tryd.underlying3 h5
  obtain ⟨e, e6, _, _⟩ := DataW.trod_int Tryd.underlying3 h6
  simp only [List.cons.injEq, and_true] at e2 e3 e4 e5 e6
  subst e2 e3 e4 e5 e6
  exact ⟨At, Ak, nt, nk, ct, ck, l, m, a, b, c, d, e, rfl, ⟨r1, s1, r2, s2, r3, s3⟩, r4⟩

set_option maxRecDepth 100000 in
/-- An argument of type Rules. -/
theorem open_rules {H : Type} {enc : TypeId × Value → H} {W : World} {base : Nat} {v : Value} {d : DataW H} {p : List MemPlace}
    (hv : Value.okWide Tryd.prog W .any base 25 v) (h : DataW.Trod enc Tryd.prog W 0 (fun _ => true) true 25 v d p) :
    ∃ (At Ak : Option Addr) (nt nk ct ck : Nat) (l : List Ter) (m : List Knd) (a b c d e : Int), v = rv (.slice At nt ct) (.slice Ak nk ck) a b c d e ∧ RulIn W At Ak nt nk l m ∧ ∀ x ∈ l, ∀ z ∈ x.cost, -9223372036854775808 ≤ z ∧ z ≤ 9223372036854775807 := by
  obtain ⟨cs, n, rfl, hl, hf⟩ := open_fields Tryd.underlying25 (by kernel_rfl) cellsRul rfl hv h
  obtain ⟨At, Ak, nt, nk, ct, ck, l, m, a, b, c, d, e, rfl, h1, h2⟩ := rules_cells (n := n) hl (by rw [Tryd.underlying25]; exact hf)
  exact ⟨At, Ak, nt, nk, ct, ck, l, m, a, b, c, d, e, rfl, h1, h2⟩

end Go.Proofs.YtkkcnofplddbmaaDoor
