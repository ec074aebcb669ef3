/-
  Texts of this seat in one module: RulL, TabV, Tab, IsMapI, MapW, RulO, TabS, TabK, Con, ImT, ImU, NuL, LiO, RuT.
-/
import Derived.Test.YtpdcmpojjchobaaDoorCards
import Derived.Test.YtpdcmpojjchobaaDoorTie
import Derived.Deep.DeepHandedRow
import Derived.Lib.LaidTab
import Derived.FnData
import Derived.Lib.SmallJoins
import Derived.Deep.Fields
import Derived.Deep.Slices
import Derived.Test.YtpdcmpojjchobaaDoorShelf
import Derived.WalkSmall
import Derived.Lib.AppendZeros
import Derived.Maps.AppendAt
import Derived.Test.YtpdcmpojjchobaaDoorBua
import Derived.Test.YtpdcmpojjchobaaDoorBub
import Derived.Test.YtpdcmpojjchobaaDoorBuc

/-
  The laws' sizes of terrains, kinds and rules: either what is left is negative, or all that was counted is small. Nothing that was there is changed.
-/
namespace Go.Proofs.YtpdcmpojjchobaaDoor
open Go.RowKit

def smT (x : Ter) : Prop := x.cost.length ≤ 1048576 ∧ x.name.size ≤ 1048576
def smK (x : Knd) : Prop := x.name.size ≤ 1048576

theorem szTerrain_any (n : ByteArray) (A : Option Addr) (nc cc : Nat) (s h : Int) (b : Bool) (left : Int) (w : World) (h0 : 0 ≤ left) (h1 : left ≤ 1048576) (hn : n.size ≤ 9223372036854775807) (hc : nc ≤ 9223372036854775807) :
    Calls Tryd.prog 64 #[tv n A nc cc s h b, .int .i64 left] w (SzPost (nc ≤ 1048576 ∧ n.size ≤ 1048576) w) := by
  by_cases a1 : (n.size : Int) ≤ left
  · have a1' : ¬ (left - n.size) < 0 := by omega
    by_cases a2 : (nc : Int) ≤ left - n.size
    · have a2' : ¬ (left - n.size - nc) < 0 := by omega
      go_enter Tryd.func64, Tryd.ntmps64
      go_wp2_with fail
      refine (szIntS_yes _ _ _ _ _ (by omega) (by omega) (by omega)).mono ?_
      rintro e1 w1 ⟨rfl, rfl⟩
      go_wp2_with fail
      go_ret
      exact ⟨_, rfl, by omega, by omega, fun _ => (by omega), (Kp.refl _).alloc _⟩
    · go_enter Tryd.func64, Tryd.ntmps64
      go_wp2_with fail
      refine (szIntS_no _ _ _ _ _ (by omega) (by omega) (by omega) (by omega)).mono ?_
      rintro e1 w1 ⟨rfl, rfl⟩
      go_wp2_with fail
      go_ret
      exact ⟨_, rfl, by omega, by omega, fun h => absurd h (by omega), (Kp.refl _).alloc _⟩
  · have a1' : (left - n.size) < 0 := by omega
    go_enter Tryd.func64, Tryd.ntmps64
    go_wp2_with fail
    go_ret
    exact ⟨_, rfl, by omega, by omega, fun h => absurd h (by omega), (Kp.refl _).alloc _⟩

theorem szKind_any (n : ByteArray) (a b c : Int) (z : Bool) (v : Int) (left : Int) (w : World) (h0 : 0 ≤ left) (h1 : left ≤ 1048576) (hn : n.size ≤ 9223372036854775807) :
    Calls Tryd.prog 65 #[kv n a b c z v, .int .i64 left] w (SzPost (n.size ≤ 1048576) w) := by
  by_cases a1 : (n.size : Int) ≤ left
  · have a1' : ¬ (left - n.size) < 0 := by omega
    go_enter Tryd.func65, Tryd.ntmps65
    go_wp2_with fail
    go_ret
    exact ⟨_, rfl, by omega, by omega, fun _ => (by omega), (Kp.refl _).alloc _⟩
  · have a1' : (left - n.size) < 0 := by omega
    go_enter Tryd.func65, Tryd.ntmps65
    go_wp2_with fail
    go_ret
    exact ⟨_, rfl, by omega, by omega, fun h => absurd h (by omega), (Kp.refl _).alloc _⟩

set_option maxRecDepth 100000 in
set_option maxHeartbeats 1000000 in
theorem szTerrainS_any (A : Option Addr) (n c : Nat) (l : List Ter) (left : Int) (w : World) (h : RdT w A n l) (h0 : 0 ≤ left) (h1 : left ≤ 1048576) (hn : n ≤ 9223372036854775807) (hb : ∀ x ∈ l, x.cost.length ≤ 9223372036854775807 ∧ x.name.size ≤ 9223372036854775807) :
    Calls Tryd.prog 27 #[.slice A n c, .int .i64 left] w (SzPost (n ≤ 1048576 ∧ ∀ x ∈ l, smT x) w) := by
  have HN := Lib.hid h.1
  have HA := Lib.hid h.2
  have HB := Lib.hid hb
  clear h hb
  obtain ⟨P, hP⟩ : ∃ P, P = (n ≤ 1048576 ∧ ∀ x ∈ l, smT x) := ⟨_, rfl⟩
  rw [← hP]
  have HP := Lib.hid hP
  clear hP
  by_cases a1 : (n : Int) ≤ left
  · have a1' : ¬ (left - n) < 0 := by omega
    go_enter Tryd.func27, Tryd.ntmps27
    go_wp2_with fail
    go_loopw [1, 5] (fun v i wr => ∃ (k : Nat) (r : Int), k ≤ n ∧ i = .int .i64 k ∧ v = .int .i64 r ∧ 0 ≤ r ∧ r ≤ 1048576 ∧ Hid (∀ j x, j < k → l[j]? = some x → smT x) ∧ Kp w wr) (fun _ i _ => n - (intOf i).toNat)
    case atStart => exact ⟨0, _, by omega, rfl, rfl, by omega, by omega, Lib.hid fun j x hj => absurd hj (by omega), Kp.refl _⟩
    case round =>
      obtain ⟨k, r, hk, rfl, rfl, r0, r1, hE, kr⟩ := hrel
      by_cases hlt : k < n
      · have hlt' : (k : Int) < n := by omega
        obtain ⟨g, off, rfl, hc⟩ := HA.out (by omega)
        obtain ⟨x, hx⟩ : ∃ x, l[k]? = some x := ⟨l[k]'(by have := HN.out; omega), List.getElem?_eq_getElem _⟩
        obtain ⟨Ac, cc, ⟨a0, a1, a2, a3, a4⟩, _⟩ := (hc k x hx).keep kr
        have HX := Lib.hid hx
        have hbx := HB.out x (List.mem_of_getElem? hx)
        obtain ⟨nm, cs, sh, hg, bl⟩ := x
        simp only at a0 a1 a2 a3 a4 hbx
        obtain ⟨hb1, hb2⟩ := hbx
        generalize hnc : cs.length = nc at a1 hb1
        have HNC2 := Lib.hid hnc
        clear hnc
        clear hc hx
        go_wp2_with fail
        refine (szTerrain_any _ _ _ _ _ _ _ _ _ r0 r1 hb2 hb1).mono ?_
        rintro e1 w1 ⟨r2, rfl, u1, u2, u3, k1⟩
        by_cases hneg : r2 < 0
        · go_wp2_with fail
          go_ret
          exact ⟨_, rfl, by omega, by omega, fun h => absurd h (by omega), kr.trans k1⟩
        · have hs : Hid (smT ⟨nm, cs, sh, hg, bl⟩) := Lib.hid (by have := u3 (by omega); simpa [smT, HNC2.out] using this)
          have HE2 : Hid (∀ j x, j < k + 1 → l[j]? = some x → smT x) := Lib.hid fun j x hj hx => by
            rcases Nat.lt_or_ge j k with hjk | hjk
            · exact hE.out j x hjk hx
            · obtain rfl : j = k := by omega
              rw [HX.out] at hx
              obtain rfl := Option.some.inj hx
              exact hs.out
          clear u3
          go_wp2_with fail
          go_roundw
          case rel => exact ⟨k + 1, r2, by omega, by go_num, rfl, by omega, by omega, HE2, kr.trans k1⟩
          case measure => simp [intOf]; omega
      · obtain rfl : k = n := by omega
        go_wp2_with fail
        go_ret
        refine ⟨_, rfl, by omega, by omega, fun _ => ?_, kr⟩
        rw [HP.out]
        refine ⟨by omega, fun x hx => ?_⟩
        obtain ⟨i, hi, rfl⟩ := List.mem_iff_getElem.1 hx
        exact hE.out i _ (by have := HN.out; omega) (List.getElem?_eq_getElem hi)
  · have a1' : (left - n) < 0 := by omega
    go_enter Tryd.func27, Tryd.ntmps27
    go_wp2_with fail
    go_ret
    exact ⟨_, rfl, by omega, by omega, fun h => absurd h (by omega), Kp.refl _⟩

set_option maxRecDepth 100000 in
set_option maxHeartbeats 1000000 in
theorem szKindS_any (A : Option Addr) (n c : Nat) (l : List Knd) (left : Int) (w : World) (h : RdK w A n l) (h0 : 0 ≤ left) (h1 : left ≤ 1048576) (hn : n ≤ 9223372036854775807) (hb : ∀ x ∈ l, x.name.size ≤ 9223372036854775807) :
    Calls Tryd.prog 28 #[.slice A n c, .int .i64 left] w (SzPost (n ≤ 1048576 ∧ ∀ x ∈ l, smK x) w) := by
  have HN := Lib.hid h.1
  have HA := Lib.hid h.2
  have HB := Lib.hid hb
  clear h hb
  obtain ⟨P, hP⟩ : ∃ P, P = (n ≤ 1048576 ∧ ∀ x ∈ l, smK x) := ⟨_, rfl⟩
  rw [← hP]
  have HP := Lib.hid hP
  clear hP
  by_cases a1 : (n : Int) ≤ left
  · have a1' : ¬ (left - n) < 0 := by omega
    go_enter Tryd.func28, Tryd.ntmps28
    go_wp2_with fail
    go_loopw [1, 5] (fun v i wr => ∃ (k : Nat) (r : Int), k ≤ n ∧ i = .int .i64 k ∧ v = .int .i64 r ∧ 0 ≤ r ∧ r ≤ 1048576 ∧ Hid (∀ j x, j < k → l[j]? = some x → smK x) ∧ Kp w wr) (fun _ i _ => n - (intOf i).toNat)
    case atStart => exact ⟨0, _, by omega, rfl, rfl, by omega, by omega, Lib.hid fun j x hj => absurd hj (by omega), Kp.refl _⟩
    case round =>
      obtain ⟨k, r, hk, rfl, rfl, r0, r1, hE, kr⟩ := hrel
      by_cases hlt : k < n
      · have hlt' : (k : Int) < n := by omega
        obtain ⟨g, off, rfl, hc⟩ := HA.out (by omega)
        obtain ⟨x, hx⟩ : ∃ x, l[k]? = some x := ⟨l[k]'(by have := HN.out; omega), List.getElem?_eq_getElem _⟩
        obtain ⟨a0, a1, a2, a3, a4, a5⟩ := (hc k x hx).keep kr
        have HX := Lib.hid hx
        have hbx := HB.out x (List.mem_of_getElem? hx)
        obtain ⟨nm, ks, km, kt, kz, kw⟩ := x
        simp only at a0 a1 a2 a3 a4 a5 hbx
        clear hc hx
        go_wp2_with fail
        refine (szKind_any _ _ _ _ _ _ _ _ r0 r1 hbx).mono ?_
        rintro e1 w1 ⟨r2, rfl, u1, u2, u3, k1⟩
        by_cases hneg : r2 < 0
        · go_wp2_with fail
          go_ret
          exact ⟨_, rfl, by omega, by omega, fun h => absurd h (by omega), kr.trans k1⟩
        · have hs : Hid (smK ⟨nm, ks, km, kt, kz, kw⟩) := Lib.hid (by have := u3 (by omega); exact this)
          have HE2 : Hid (∀ j x, j < k + 1 → l[j]? = some x → smK x) := Lib.hid fun j x hj hx => by
            rcases Nat.lt_or_ge j k with hjk | hjk
            · exact hE.out j x hjk hx
            · obtain rfl : j = k := by omega
              rw [HX.out] at hx
              obtain rfl := Option.some.inj hx
              exact hs.out
          clear u3
          go_wp2_with fail
          go_roundw
          case rel => exact ⟨k + 1, r2, by omega, by go_num, rfl, by omega, by omega, HE2, kr.trans k1⟩
          case measure => simp [intOf]; omega
      · obtain rfl : k = n := by omega
        go_wp2_with fail
        go_ret
        refine ⟨_, rfl, by omega, by omega, fun _ => ?_, kr⟩
        rw [HP.out]
        refine ⟨by omega, fun x hx => ?_⟩
        obtain ⟨i, hi, rfl⟩ := List.mem_iff_getElem.1 hx
        exact hE.out i _ (by have := HN.out; omega) (List.getElem?_eq_getElem hi)
  · have a1' : (left - n) < 0 := by omega
    go_enter Tryd.func28, Tryd.ntmps28
    go_wp2_with fail
    go_ret
    exact ⟨_, rfl, by omega, by omega, fun h => absurd h (by omega), Kp.refl _⟩

/-- What an argument's rules are: two slices that read as lists, within Go's own bounds. -/
structure RulIn (w : World) (At Ak : Option Addr) (nt nk : Nat) (l : List Ter) (m : List Knd) : Prop where
  rt : RdT w At nt l
  rk : RdK w Ak nk m
  bt : nt ≤ 9223372036854775807
  bk : nk ≤ 9223372036854775807
  bc : ∀ x ∈ l, x.cost.length ≤ 9223372036854775807 ∧ x.name.size ≤ 9223372036854775807
  bn : ∀ x ∈ m, x.name.size ≤ 9223372036854775807
def rulSm (nt nk : Nat) (l : List Ter) (m : List Knd) : Prop := (nt ≤ 1048576 ∧ ∀ x ∈ l, smT x) ∧ (nk ≤ 1048576 ∧ ∀ x ∈ m, smK x)
theorem RulIn.at {w : World} {At Ak : Option Addr} {nt nk : Nat} {l : List Ter} {m : List Knd} (h : RulIn w At Ak nt nk l m) (s : rulSm nt nk l m) : RulAt w At Ak nt nk l m :=
  ⟨h.rt, h.rk, s.1.1, s.2.1, s.1.2, s.2.2⟩

set_option maxRecDepth 100000 in
set_option maxHeartbeats 1000000 in
theorem szRules_any (At Ak : Option Addr) (nt nk ct ck : Nat) (l : List Ter) (m : List Knd) (a b c d e : Int) (left : Int) (w : World) (h : RulIn w At Ak nt nk l m) (h0 : 0 ≤ left) (h1 : left ≤ 1048576) :
    Calls Tryd.prog 8 #[rv (.slice At nt ct) (.slice Ak nk ck) a b c d e, .int .i64 left] w (SzPost (rulSm nt nk l m) w) := by
  have HL := Lib.hid h
  have KA : Kp w (w.alloc (.cells #[.slice At nt ct, .slice Ak nk ck, .int .i64 a, .int .i64 b, .int .i64 c, .int .i64 d, .int .i64 e] 25)) := (Kp.refl w).alloc _
  have f1 : (w.alloc (.cells #[.slice At nt ct, .slice Ak nk ck, .int .i64 a, .int .i64 b, .int .i64 c, .int .i64 d, .int .i64 e] 25)).cell? ⟨w.heap.size, 1, none⟩ = some (.slice Ak nk ck) := by simp [go_sem]
  clear h
  go_enter Tryd.func8, Tryd.ntmps8
  go_wp2_with fail
  refine (szTerrainS_any _ _ _ l _ _ (HL.out.rt.keep KA) h0 h1 HL.out.bt HL.out.bc).mono ?_
  rintro e1 w1 ⟨r1, rfl, u1, u2, u3, k1⟩
  have f2 := k1.cell f1
  have H3 := Lib.hid u3
  clear u3
  by_cases hneg : r1 < 0
  · go_wp2_with fail
    go_ret
    exact ⟨_, rfl, by omega, by omega, fun h => absurd h (by omega), KA.trans k1⟩
  · go_wp2_with fail
    refine (szKindS_any _ _ _ m _ _ (HL.out.rk.keep (KA.trans k1)) (by omega) u1 HL.out.bk HL.out.bn).mono ?_
    rintro e2 w2 ⟨r2, rfl, v1, v2, v3, k2⟩
    have H4 := Lib.hid v3
    clear v3
    by_cases hneg2 : r2 < 0
    · go_wp2_with fail
      go_ret
      exact ⟨_, rfl, by omega, by omega, fun h => absurd h (by omega), (KA.trans k1).trans k2⟩
    · go_wp2_with fail
      go_ret
      exact ⟨_, rfl, by omega, by omega, fun _ => ⟨H3.out (by omega), H4.out (by omega)⟩, (KA.trans k1).trans k2⟩

end Go.Proofs.YtpdcmpojjchobaaDoor

/-
  What a row's list says of named variables, cell by cell; worlds in which they lie.
-/
namespace Go.Proofs.YtpdcmpojjchobaaDoor
open Go.ChangeShapes Go.WideShapes Go.ChangeAt Go.RowKit Go.Joins

theorem cellsInt : Tryd.prog.cellsOf 3 = 1 := by kernel_rfl
theorem laid_one {P : Program} {w : World} : ∀ {l : List (String × DataW Unit)} {ps : List MemPlace} {n : String} {d : DataW Unit}, DataW.LaidVars P w l ps → (n, d) ∈ l →
    ∃ g t cs fuel p, P.globalNamed n = some g ∧ (P.globals[g]?).map (·.type) = some t ∧ w.var? P n = some cs ∧ DataW.trod (fun _ => ()) P w 0 (fun _ => true) false fuel t cs.toList = some (d, p)
  | [], _, _, _, _, h => by cases h
  | (m, e) :: r, ps, n, d, hl, h => by
    obtain ⟨g, t, cs, fuel, p, q, h1, h2, h3, h4, hr, _⟩ := hl
    rcases List.mem_cons.1 h with he | he
    · obtain ⟨rfl, rfl⟩ := Prod.mk.injEq .. |>.mp he
      exact ⟨g, t, cs, fuel, p, h1, h2, h3, h4⟩
    · exact laid_one hr he

theorem spanFields : ∃ f0 f1 : Field, Tryd.prog.underlying 113 = some (.struct #[f0, f1]) ∧ f0.type = 3 ∧ f1.type = 3 ∧ f0.offset = 0 ∧ f1.offset = 1 :=
  ⟨_, _, Tryd.underlying113, rfl, rfl, rfl, rfl⟩
theorem span_of {W : World} {n : String} {g : Nat} {a b : Int} (hG : Tryd.prog.globalNamed n = some g) (hT : (Tryd.prog.globals[g]?).map (·.type) = some 113)
    (h : ∃ g t cs fuel p, Tryd.prog.globalNamed n = some g ∧ (Tryd.prog.globals[g]?).map (·.type) = some t ∧ W.var? Tryd.prog n = some cs ∧ DataW.trod (fun _ => ()) Tryd.prog W 0 (fun _ => true) false fuel t cs.toList = some (.agg [.lit (.int .i64 a), .lit (.int .i64 b)], p)) : SpanAt W g a b := by
  obtain ⟨g', t', cs, fuel, p, hg', ht', hvar, hd⟩ := h
  obtain rfl := Option.some.inj (hG.symm.trans hg')
  obtain rfl := Option.some.inj (hT.symm.trans ht')
  obtain ⟨f0, f1, hu, e0, e1, o0, o1⟩ := spanFields
  obtain ⟨y0, y1, n', hx, hlen, u0, u1⟩ := trod_struct2 hu hd
  rw [e0, o0, cellsInt] at u0
  rw [e1, o1, cellsInt] at u1
  obtain ⟨x, c0, rfl, _⟩ := DataW.trod_int Tryd.underlying3 u0
  obtain ⟨y, c1, rfl, _⟩ := DataW.trod_int Tryd.underlying3 u1
  simp only [Prod.mk.injEq, DataW.agg.injEq, List.cons.injEq, DataW.lit.injEq, Lit.int.injEq, true_and, and_true] at hx
  obtain ⟨⟨rfl, rfl⟩, _⟩ := hx
  have g0 : cs[0]? = some (.int .i64 a) := by
    have := congrArg (·[0]?) c0
    simpa [List.getElem?_take, List.getElem?_drop] using this
  have g1 : cs[1]? = some (.int .i64 b) := by
    have := congrArg (·[0]?) c1
    simpa [List.getElem?_take, List.getElem?_drop] using this
  exact ⟨(World.var?_cell hG hvar _).trans g0, (World.var?_cell hG hvar _).trans g1⟩

/-- The same world, a variable's cells laid. -/
noncomputable def setVar (w : World) (g : Nat) (xs : Array Value) : World :=
  { w with heap := w.heap.modify g fun
      | .cells _ t frozen => .cells xs t frozen
      | o => o }
theorem trodVars_len {H : Type} {enc : TypeId × Value → H} {P : Program} {w : World} {sp : Nat → Bool} : ∀ {ns : List String} {gs : List (DataW H)} {ps : List MemPlace}, DataW.TrodVars enc P w sp ns gs ps → gs.length = ns.length
  | [], [], _, _ => rfl
  | n :: ns, d :: ds, _, h => by
    obtain ⟨_, _, _, _, _, _, _, _, _, _, h, _⟩ := h
    simp [trodVars_len h]
  | [], _ :: _, _, h => h.elim
  | _ :: _, [], _, h => h.elim
end Go.Proofs.YtpdcmpojjchobaaDoor

/-
  What the row's list says of the table of directions, cell by cell; and a world for the witness in which the table lies.
-/
namespace Go.Proofs.YtpdcmpojjchobaaDoor
open Go.ChangeShapes Go.WideShapes Go.ChangeAt Go.RowKit Go.Joins

abbrev tabName : String := "loop.example/g00886/impl.directionSteps"
theorem tabG : Tryd.prog.globalNamed tabName = some 19 := by kernel_rfl
theorem tabT : (Tryd.prog.globals[19]?).map (·.type) = some 200 := by kernel_rfl
theorem cellsOff : Tryd.prog.cellsOf 199 = 2 := by kernel_rfl
theorem offFields : ∃ f0 f1 : Field, Tryd.prog.underlying 199 = some (.struct #[f0, f1]) ∧ f0.type = 3 ∧ f1.type = 3 ∧ f0.offset = 0 ∧ f1.offset = 1 :=
  ⟨_, _, Tryd.underlying199, rfl, rfl, rfl, rfl⟩

theorem tab_datum {H : Type} (d : Nat) (h : d < 6) :
    ([.agg [.lit (.int .i64 1), .lit (.int .i64 0)], .agg [.lit (.int .i64 1), .lit (.int .i64 (-1))], .agg [.lit (.int .i64 0), .lit (.int .i64 (-1))], .agg [.lit (.int .i64 (-1)), .lit (.int .i64 0)], .agg [.lit (.int .i64 (-1)), .lit (.int .i64 1)], .agg [.lit (.int .i64 0), .lit (.int .i64 1)]] : List (DataW H))[d]? =
      some (.agg [.lit (.int .i64 (dirQ d)), .lit (.int .i64 (dirR d))]) := by
  match d, h with
  | 0, _ => rfl
  | 1, _ => rfl
  | 2, _ => rfl
  | 3, _ => rfl
  | 4, _ => rfl
  | 5, _ => rfl

theorem tab_of_laid1 {W : World} (h : ∃ g t cs fuel p, Tryd.prog.globalNamed tabName = some g ∧ (Tryd.prog.globals[g]?).map (·.type) = some t ∧ W.var? Tryd.prog tabName = some cs ∧ DataW.trod (fun _ => ()) Tryd.prog W 0 (fun _ => true) false fuel t cs.toList = some (Rows.laid_loop_example_g00886_impl_directionSteps, p)) : Tab W := by
  obtain ⟨g', t', cs, fuel, p, hg', ht', hvar, hd⟩ := h
  obtain rfl := Option.some.inj (tabG.symm.trans hg')
  obtain rfl := Option.some.inj (tabT.symm.trans ht')
  obtain ⟨xs, m, _, hx, hl, hn, hi⟩ := DataW.trod_array Tryd.underlying200 hd
  have hxs : xs.map (·.1) = [.agg [.lit (.int .i64 1), .lit (.int .i64 0)], .agg [.lit (.int .i64 1), .lit (.int .i64 (-1))], .agg [.lit (.int .i64 0), .lit (.int .i64 (-1))], .agg [.lit (.int .i64 (-1)), .lit (.int .i64 0)], .agg [.lit (.int .i64 (-1)), .lit (.int .i64 1)], .agg [.lit (.int .i64 0), .lit (.int .i64 1)]] := by
    have := congrArg Prod.fst hx
    simp only [Rows.laid_loop_example_g00886_impl_directionSteps, DataW.agg.injEq] at this
    exact this.symm
  intro d hd6
  have h1 := hi d hd6
  rw [cellsOff] at h1
  have h2 : (xs.map (·.1))[d]? = some (.agg [.lit (.int .i64 (dirQ d)), .lit (.int .i64 (dirR d))]) := by rw [hxs]; exact tab_datum d hd6
  rw [List.getElem?_map, Option.map_eq_some_iff] at h2
  obtain ⟨y, hy, hy1⟩ := h2
  obtain ⟨f0, f1, hu, e0, e1, o0, o1⟩ := offFields
  obtain ⟨y0, y1, n, rfl, hlen, u0, u1⟩ := trod_struct2 hu (h1.trans hy)
  rw [e0, o0, cellsInt] at u0
  rw [e1, o1, cellsInt] at u1
  obtain ⟨a, c0, rfl, _⟩ := DataW.trod_int Tryd.underlying3 u0
  obtain ⟨b, c1, rfl, _⟩ := DataW.trod_int Tryd.underlying3 u1
  simp only [DataW.agg.injEq, List.cons.injEq, DataW.lit.injEq, Lit.int.injEq, true_and, and_true] at hy1
  obtain ⟨rfl, rfl⟩ := hy1
  have g0 : cs[d * 2]? = some (.int .i64 (dirQ d)) := by
    have := congrArg (·[0]?) c0
    simpa [List.getElem?_take, List.getElem?_drop] using this
  have g1 : cs[d * 2 + 1]? = some (.int .i64 (dirR d)) := by
    have := congrArg (·[0]?) c1
    simpa [List.getElem?_take, List.getElem?_drop] using this
  exact ⟨(World.var?_cell tabG hvar _).trans g0, (World.var?_cell tabG hvar _).trans g1⟩
theorem tab_of_laid {W : World} (h : laidMetH Tryd.prog [(tabName, Rows.laid_loop_example_g00886_impl_directionSteps)] W) : Tab W := by
  have h' : laidMet Tryd.prog [(tabName, Rows.laid_loop_example_g00886_impl_directionSteps)] W := h
  obtain ⟨ps, ⟨g', t', cs, fuel, p, q, hg', ht', hvar, hd, _, _⟩, _⟩ := h'
  exact tab_of_laid1 ⟨g', t', cs, fuel, p, hg', ht', hvar, hd⟩

/-- A world for the witness: the settled one, the table holding what its text lays. -/
noncomputable def laidWorld (os : Os) : World :=
  { World.holding Tryd.prog os ⟨#[], #[], []⟩ with heap := (World.holding Tryd.prog os ⟨#[], #[], []⟩).heap.modify 19 fun
      | .cells _ t frozen => .cells #[.int .i64 1, .int .i64 0, .int .i64 1, .int .i64 (-1), .int .i64 0, .int .i64 (-1), .int .i64 (-1), .int .i64 0, .int .i64 (-1), .int .i64 1, .int .i64 0, .int .i64 1] t frozen
      | o => o }
end Go.Proofs.YtpdcmpojjchobaaDoor

/-
  The program's test of a map returns what a plain function on lists says, and changes nothing that was there. The table of directions holds what the program's text lays.
-/
namespace Go.Proofs.YtpdcmpojjchobaaDoor
open Go.RowKit

theorem drew5 {W0 w : World} {b : Nat} {v0 v1 v2 v3 v4 : Value}
    (h : w.cell? ⟨b, 0, none⟩ = some v0 ∧ w.cell? ⟨b, 1, none⟩ = some v1 ∧ w.cell? ⟨b, 2, none⟩ = some v2 ∧ w.cell? ⟨b, 3, none⟩ = some v3 ∧ w.cell? ⟨b, 4, none⟩ = some v4 ∧ Kp W0 w) :
    w.drew.cell? ⟨b, 0, none⟩ = some v0 ∧ w.drew.cell? ⟨b, 1, none⟩ = some v1 ∧ w.drew.cell? ⟨b, 2, none⟩ = some v2 ∧ w.drew.cell? ⟨b, 3, none⟩ = some v3 ∧ w.drew.cell? ⟨b, 4, none⟩ = some v4 ∧ Kp W0 w.drew :=
  ⟨h.1, h.2.1, h.2.2.1, h.2.2.2.1, h.2.2.2.2.1, h.2.2.2.2.2.drew⟩

theorem isSide_q (n : Int) (w : World) : Calls Tryd.prog 94 #[.int .i64 n] w fun e w' => e = .returned (.bool (sideB n)) ∧ w' = w :=
  (isSide_any n w).mono fun _ _ ⟨he, hw⟩ => ⟨he, hw.symm⟩

theorem isMap_no1 (W H : Int) (At : Option Addr) (nt ct : Nat) (r d : Value) (w : World) (h : sideB W = false) :
    Calls Tryd.prog 50 #[mp W H (.slice At nt ct) r d] w fun e w' => e = .returned (.bool false) ∧ Kp w w' := by
  go_enter Tryd.func50, Tryd.ntmps50
  go_wp2_with fail
  go_quiet ((go_at_call 94; exact Calls.quiet_of_same (isSide_q _ _)))
  go_wp2_with fail
  go_ret
  exact ⟨rfl, ((Kp.refl _).alloc _).drewN _⟩

theorem isMap_no2 (W H : Int) (At : Option Addr) (nt ct : Nat) (r d : Value) (w : World) (h : sideB W = true) (h' : sideB H = false) :
    Calls Tryd.prog 50 #[mp W H (.slice At nt ct) r d] w fun e w' => e = .returned (.bool false) ∧ Kp w w' := by
  go_enter Tryd.func50, Tryd.ntmps50
  go_wp2_with fail
  go_quiet ((go_at_call 94; exact Calls.quiet_of_same (isSide_q _ _)))
  go_wp2_with fail
  go_ret
  exact ⟨rfl, ((Kp.refl _).alloc _).drewN _⟩

set_option maxHeartbeats 2000000 in
theorem isMap_no3 (W H : Int) (At : Option Addr) (nt ct : Nat) (r d : Value) (w : World) (h : sideB W = true) (h' : sideB H = true) (hn : ¬ (nt : Int) = W * H) :
    Calls Tryd.prog 50 #[mp W H (.slice At nt ct) r d] w fun e w' => e = .returned (.bool false) ∧ Kp w w' := by
  have s0 := new5 w (.int .i64 W) (.int .i64 H) (.slice At nt ct) r d 43
  obtain ⟨a, b⟩ := sideB_true h
  obtain ⟨c, e⟩ := sideB_true h'
  have hne : ((nt : Int) != W * H) = true := by simpa using hn
  go_enter Tryd.func50, Tryd.ntmps50
  go_wp2_with fail
  generalize w.alloc (.cells #[.int .i64 W, .int .i64 H, .slice At nt ct, r, d] 43) = W0 at *
  have s1 := drew5 s0
  go_region_held3 (fun w' => w'.cell? ⟨w.heap.size, 0, none⟩ = some (.int .i64 W) ∧ w'.cell? ⟨w.heap.size, 1, none⟩ = some (.int .i64 H) ∧ w'.cell? ⟨w.heap.size, 2, none⟩ = some (.slice At nt ct) ∧ w'.cell? ⟨w.heap.size, 3, none⟩ = some r ∧ w'.cell? ⟨w.heap.size, 4, none⟩ = some d ∧ Kp w w') (first | assumption | exact s1)
    (first
      | (go_at_call 94; refine (isSide_any _ _).mono ?_; rintro e wz ⟨rfl, rfl⟩)
      | (go_at_call 95; refine (countHexes_any _ _ _ _ _ _ a b c e).mono ?_; rintro e2 wz ⟨rfl, kz⟩; have sz := keep5 kz (by assumption)))
  all_goals
    go_wp2_with fail
    go_ret
    exact ⟨rfl, sz.2.2.2.2.2⟩

set_option maxHeartbeats 4000000 in
theorem isMap_yes (W H : Int) (t r d : Value) (lt lr ld : List Int) (w : World) (ht : Tab w) (hL : Lists w t r d lt lr ld) (h : sideB W = true) (h' : sideB H = true) (hn : (lt.length : Int) = W * H) :
    Calls Tryd.prog 50 #[mp W H t r d] w fun e w' => e = .returned (.bool (lt.all terrB && (edgesOk W H lr && edgesOk W H ld))) ∧ Kp w w' := by
  obtain ⟨a, b⟩ := sideB_true h
  obtain ⟨c, e⟩ := sideB_true h'
  have hA := area_bd a b c e
  have HL := Lib.hid hL
  have HT := Lib.hid ht
  obtain ⟨At, ct, rfl, HAt⟩ := hL.rt
  obtain ⟨Ar, cr, rfl, _⟩ := hL.rr
  obtain ⟨Ad, cd, rfl, _⟩ := hL.rd
  have HA := Lib.hid HAt
  have h1048 := hL.bt
  obtain ⟨R, hR⟩ : ∃ R, R = lt.all terrB := ⟨_, rfl⟩
  obtain ⟨R1, hR1⟩ : ∃ R, R = edgesOk W H lr := ⟨_, rfl⟩
  obtain ⟨R2, hR2⟩ : ∃ R, R = edgesOk W H ld := ⟨_, rfl⟩
  rw [← hR, ← hR1, ← hR2]
  have HR := Lib.hid hR
  have HR1 := Lib.hid hR1
  have HR2 := Lib.hid hR2
  have hne : ((lt.length : Int) != W * H) = false := by simpa using hn
  clear HAt hL ht hn hR hR1 hR2
  generalize hn : lt.length = nt at *
  have HN := Lib.hid hn
  clear hn
  generalize lr.length = nr at *
  generalize ld.length = nd at *
  have s0 := new5 w (.int .i64 W) (.int .i64 H) (.slice At nt ct) (.slice Ar nr cr) (.slice Ad nd cd) 43
  go_enter Tryd.func50, Tryd.ntmps50
  go_wp2_with fail
  generalize w.alloc (.cells #[.int .i64 W, .int .i64 H, .slice At nt ct, .slice Ar nr cr, .slice Ad nd cd] 43) = W0 at *
  have s1 := drew5 s0
  go_region_held3 (fun w' => w'.cell? ⟨w.heap.size, 0, none⟩ = some (.int .i64 W) ∧ w'.cell? ⟨w.heap.size, 1, none⟩ = some (.int .i64 H) ∧ w'.cell? ⟨w.heap.size, 2, none⟩ = some (.slice At nt ct) ∧ w'.cell? ⟨w.heap.size, 3, none⟩ = some (.slice Ar nr cr) ∧ w'.cell? ⟨w.heap.size, 4, none⟩ = some (.slice Ad nd cd) ∧ Kp w w') (first | assumption | exact s1)
    (first
      | (go_at_call 94; refine (isSide_any _ _).mono ?_; rintro e wz ⟨rfl, rfl⟩)
      | (go_at_call 95; refine (countHexes_any _ _ _ _ _ _ a b c e).mono ?_; rintro e2 wz ⟨rfl, kz⟩; have sz := keep5 kz (by assumption)))
  clear s0 s1 hne
  go_wp2_with fail
  go_loop [4, 28] (fun _ i => ∃ k : Nat, k ≤ nt ∧ i = .int .i64 k ∧ Hid ((lt.drop k).all terrB = R)) (fun _ i => nt - (intOf i).toNat)
  case atStart => exact ⟨0, by omega, rfl, Lib.hid HR.out.symm⟩
  case round =>
    obtain ⟨k, hk, rfl, hE⟩ := hrel
    by_cases hlt : k < nt
    · obtain ⟨g, off, rfl, hc⟩ := HA.out (by omega)
      obtain ⟨x, hx⟩ : ∃ x, lt[k]? = some x := ⟨lt[k]'(by have := HN.out; omega), List.getElem?_eq_getElem _⟩
      have a0 := sz.2.2.2.2.2.cell (hc k x hx)
      have HX := Lib.hid (drop_step hx)
      clear hc hx
      have hlt' : (k : Int) < nt := by omega
      cases hok : terrB x
      · go_wp2_with fail
        refine (isTerrain_any _ _).mono ?_
        rintro e1 wy ⟨rfl, rfl⟩
        go_wp2_with fail
        go_ret
        have e : R = false := by rw [← hE.out, HX.out]; exact all_no hok
        exact ⟨ret_bool (by rw [e]; rfl), sz.2.2.2.2.2⟩
      · have HE2 : Hid ((lt.drop (k + 1)).all terrB = R) := Lib.hid (by rw [← hE.out, HX.out]; exact (all_go hok).symm)
        go_wp2_with fail
        refine (isTerrain_any _ _).mono ?_
        rintro e1 wy ⟨rfl, rfl⟩
        go_wp2_with fail
        go_round
        case rel => exact ⟨k + 1, by omega, by go_num, HE2⟩
        case measure => simp [intOf]; omega
    · obtain rfl : k = nt := by omega
      have hRt : R = true := by
        rw [← hE.out, List.drop_of_length_le (by rw [HN.out]; omega)]
        rfl
      have i0 := index0 (.slice Ar nr cr) (.slice Ad nd cd)
      have i1 := index1 (.slice Ar nr cr) (.slice Ad nd cd)
      subst hRt
      go_wp2_with fail
      refine (edgeListsOf_any _ _ _ _ _ _ _ _ _ _).mono ?_
      rintro e1 wy ⟨rfl, ky⟩
      have sy := keep5 ky sz
      clear sz ky
      go_wp2_with fail
      go_loopw [6, 38] (fun _ i wr => ∃ j : Nat, j ≤ 2 ∧ i = .int .i64 j ∧ Hid ((1 ≤ j → R1 = true) ∧ (2 ≤ j → R2 = true)) ∧
        (wr.cell? ⟨w.heap.size, 0, none⟩ = some (.int .i64 W) ∧ wr.cell? ⟨w.heap.size, 1, none⟩ = some (.int .i64 H) ∧ wr.cell? ⟨w.heap.size, 2, none⟩ = some (.slice At k ct) ∧ wr.cell? ⟨w.heap.size, 3, none⟩ = some (.slice Ar nr cr) ∧ wr.cell? ⟨w.heap.size, 4, none⟩ = some (.slice Ad nd cd) ∧ Kp w wr)) (fun _ i _ => 2 - (intOf i).toNat)
      case atStart => exact ⟨0, by omega, rfl, Lib.hid ⟨fun h => absurd h (by omega), fun h => absurd h (by omega)⟩, sy⟩
      case round =>
        clear sy
        obtain ⟨j, hj, rfl, hJ, sr⟩ := hrel
        match j, hj with
        | 0, _ =>
          have HLr := Lib.hid (HL.out.keep sr.2.2.2.2.2)
          cases hr1 : R1
          · have HZ : Hid (edgesOk W H lr = false) := Lib.hid (by rw [← HR1.out, hr1])
            go_wp2_with fail
            refine (areEdges_any _ _ _ _ _ _ lr _ a b c e (HT.out.k5 sr) HLr.out.rr HLr.out.ir HLr.out.br).mono ?_
            rintro e1 wx ⟨rfl, kx⟩
            rw [HZ.out]
            go_wp2_with fail
            go_ret
            exact ⟨ret_bool (by simp [*]), sr.2.2.2.2.2.trans kx⟩
          · have HZ : Hid (edgesOk W H lr = true) := Lib.hid (by rw [← HR1.out, hr1])
            go_wp2_with fail
            refine (areEdges_any _ _ _ _ _ _ lr _ a b c e (HT.out.k5 sr) HLr.out.rr HLr.out.ir HLr.out.br).mono ?_
            rintro e1 wx ⟨rfl, kx⟩
            have sx := keep5 kx sr
            rw [HZ.out]
            go_wp2_with fail
            go_roundw
            case rel => exact ⟨1, by omega, rfl, Lib.hid ⟨fun _ => by first | trivial | assumption, fun h => absurd h (by omega)⟩, sx⟩
            case measure => simp [intOf]
        | 1, _ =>
          have HLr := Lib.hid (HL.out.keep sr.2.2.2.2.2)
          have hr1 := hJ.out.1 (by omega)
          subst hr1
          cases hr2 : R2
          · have HZ : Hid (edgesOk W H ld = false) := Lib.hid (by rw [← HR2.out, hr2])
            go_wp2_with fail
            refine (areEdges_any _ _ _ _ _ _ ld _ a b c e (HT.out.k5 sr) HLr.out.rd HLr.out.id HLr.out.bd).mono ?_
            rintro e1 wx ⟨rfl, kx⟩
            rw [HZ.out]
            go_wp2_with fail
            go_ret
            exact ⟨ret_bool (by simp [*]), sr.2.2.2.2.2.trans kx⟩
          · have HZ : Hid (edgesOk W H ld = true) := Lib.hid (by rw [← HR2.out, hr2])
            go_wp2_with fail
            refine (areEdges_any _ _ _ _ _ _ ld _ a b c e (HT.out.k5 sr) HLr.out.rd HLr.out.id HLr.out.bd).mono ?_
            rintro e1 wx ⟨rfl, kx⟩
            have sx := keep5 kx sr
            rw [HZ.out]
            go_wp2_with fail
            go_roundw
            case rel => exact ⟨2, by omega, rfl, Lib.hid ⟨fun _ => by first | trivial | rfl, fun _ => by first | trivial | assumption⟩, sx⟩
            case measure => simp [intOf]
        | 2, _ =>
          have hr1 := hJ.out.1 (by omega)
          have hr2 := hJ.out.2 (by omega)
          subst hr1
          subst hr2
          go_wp2_with fail
          go_ret
          exact ⟨ret_bool rfl, sr.2.2.2.2.2⟩

theorem isMap_any (W H : Int) (t r d : Value) (lt lr ld : List Int) (w : World) (ht : Tab w) (hL : Lists w t r d lt lr ld) :
    Calls Tryd.prog 50 #[mp W H t r d] w fun e w' => e = .returned (.bool (mapOk W H lt lr ld)) ∧ Kp w w' := by
  cases h : sideB W
  · obtain ⟨At, ct, rfl, _⟩ := hL.rt
    have e : mapOk W H lt lr ld = false := by simp [mapOk, h]
    rw [e]
    exact isMap_no1 W H _ _ _ r d w h
  · cases h' : sideB H
    · obtain ⟨At, ct, rfl, _⟩ := hL.rt
      have e : mapOk W H lt lr ld = false := by simp [mapOk, h']
      rw [e]
      exact isMap_no2 W H _ _ _ r d w h h'
    · by_cases hn : (lt.length : Int) = W * H
      · have e : mapOk W H lt lr ld = (lt.all terrB && (edgesOk W H lr && edgesOk W H ld)) := by simp [mapOk, h, h', hn]
        rw [e]
        exact isMap_yes W H t r d lt lr ld w ht hL h h' hn
      · obtain ⟨At, ct, rfl, _⟩ := hL.rt
        have e : mapOk W H lt lr ld = false := by simp [mapOk, hn]
        rw [e]
        exact isMap_no3 W H _ _ _ r d w h h' hn

end Go.Proofs.YtpdcmpojjchobaaDoor

/-
  What every law on maps needs: the argument's lists, the copies of the map, the cells of the two boxes.
-/
namespace Go.Proofs.YtpdcmpojjchobaaDoor
open Go.ChangeShapes Go.WideShapes Go.ChangeAt Go.RowKit Go.Joins

/-- What an argument's three lists are: slices that read as lists, of Go's own lengths and numbers. -/
structure Reads (w : World) (t r d : Value) (lt lr ld : List Int) : Prop where
  rt : RdI w t lt
  rr : RdI w r lr
  rd : RdI w d ld
  bt : lt.length ≤ 9223372036854775807
  br : lr.length ≤ 9223372036854775807
  bd : ld.length ≤ 9223372036854775807
  it : ∀ x ∈ lt, isI64 x
  ir : ∀ x ∈ lr, isI64 x
  id : ∀ x ∈ ld, isI64 x
theorem Reads.lists {w : World} {t r d : Value} {lt lr ld : List Int} (h : Reads w t r d lt lr ld) (hb : lt.length + lr.length + ld.length ≤ 1048576) : Lists w t r d lt lr ld :=
  ⟨h.rt, h.rr, h.rd, by omega, by omega, by omega, h.it, h.ir, h.id⟩
theorem Own3.lists {w w0 : World} {base : Nat} {t r d t0 r0 d0 : Value} {lt lr ld : List Int} (o : Own3 w base t r d lt lr ld) (h : Lists w0 t0 r0 d0 lt lr ld) : Lists w t r d lt lr ld :=
  ⟨o.ot.rd, o.or.rd, o.od.rd, h.bt, h.br, h.bd, h.it, h.ir, h.id⟩

theorem toMap_sl (W H : Int) (t r d : Value) (lt lr ld : List Int) (nt nr nd : Nat) (w : World) (hL : Lists w t r d lt lr ld) (h1 : lt.length = nt) (h2 : lr.length = nr) (h3 : ld.length = nd) :
    Calls Tryd.prog 19 #[mp W H t r d] w fun e w' => ∃ (A1 : Option Addr) (c1 : Nat) (A2 : Option Addr) (c2 : Nat) (A3 : Option Addr) (c3 : Nat), e = .returned (mp W H (.slice A1 nt c1) (.slice A2 nr c2) (.slice A3 nd c3)) ∧
      Own3 w' w.heap.size (.slice A1 nt c1) (.slice A2 nr c2) (.slice A3 nd c3) lt lr ld ∧ Kp w w' :=
  (toMap_any W H t r d lt lr ld w hL).mono fun e w' ⟨t', r', d', he, ho, hk⟩ => by
    obtain ⟨A1, c1, rfl⟩ := ho.ot.slice
    obtain ⟨A2, c2, rfl⟩ := ho.or.slice
    obtain ⟨A3, c3, rfl⟩ := ho.od.slice
    subst h1 h2 h3
    exact ⟨A1, c1, A2, c2, A3, c3, he, ho, hk⟩

theorem keep10 {W0 w w1 : World} {b b' : Nat} {v0 v1 v2 v3 v4 u0 u1 u2 u3 u4 : Value} (k : Kp w w1)
    (h : (w.cell? ⟨b, 0, none⟩ = some v0 ∧ w.cell? ⟨b, 1, none⟩ = some v1 ∧ w.cell? ⟨b, 2, none⟩ = some v2 ∧ w.cell? ⟨b, 3, none⟩ = some v3 ∧ w.cell? ⟨b, 4, none⟩ = some v4 ∧ Kp W0 w) ∧
      w.cell? ⟨b', 0, none⟩ = some u0 ∧ w.cell? ⟨b', 1, none⟩ = some u1 ∧ w.cell? ⟨b', 2, none⟩ = some u2 ∧ w.cell? ⟨b', 3, none⟩ = some u3 ∧ w.cell? ⟨b', 4, none⟩ = some u4 ∧ Kp W0 w) :
    (w1.cell? ⟨b, 0, none⟩ = some v0 ∧ w1.cell? ⟨b, 1, none⟩ = some v1 ∧ w1.cell? ⟨b, 2, none⟩ = some v2 ∧ w1.cell? ⟨b, 3, none⟩ = some v3 ∧ w1.cell? ⟨b, 4, none⟩ = some v4 ∧ Kp W0 w1) ∧
      w1.cell? ⟨b', 0, none⟩ = some u0 ∧ w1.cell? ⟨b', 1, none⟩ = some u1 ∧ w1.cell? ⟨b', 2, none⟩ = some u2 ∧ w1.cell? ⟨b', 3, none⟩ = some u3 ∧ w1.cell? ⟨b', 4, none⟩ = some u4 ∧ Kp W0 w1 :=
  ⟨keep5 k h.1, keep5 k h.2⟩
theorem drew10 {W0 w : World} {b b' : Nat} {v0 v1 v2 v3 v4 u0 u1 u2 u3 u4 : Value}
    (h : (w.cell? ⟨b, 0, none⟩ = some v0 ∧ w.cell? ⟨b, 1, none⟩ = some v1 ∧ w.cell? ⟨b, 2, none⟩ = some v2 ∧ w.cell? ⟨b, 3, none⟩ = some v3 ∧ w.cell? ⟨b, 4, none⟩ = some v4 ∧ Kp W0 w) ∧
      w.cell? ⟨b', 0, none⟩ = some u0 ∧ w.cell? ⟨b', 1, none⟩ = some u1 ∧ w.cell? ⟨b', 2, none⟩ = some u2 ∧ w.cell? ⟨b', 3, none⟩ = some u3 ∧ w.cell? ⟨b', 4, none⟩ = some u4 ∧ Kp W0 w) :
    (w.drew.cell? ⟨b, 0, none⟩ = some v0 ∧ w.drew.cell? ⟨b, 1, none⟩ = some v1 ∧ w.drew.cell? ⟨b, 2, none⟩ = some v2 ∧ w.drew.cell? ⟨b, 3, none⟩ = some v3 ∧ w.drew.cell? ⟨b, 4, none⟩ = some v4 ∧ Kp W0 w.drew) ∧
      w.drew.cell? ⟨b', 0, none⟩ = some u0 ∧ w.drew.cell? ⟨b', 1, none⟩ = some u1 ∧ w.drew.cell? ⟨b', 2, none⟩ = some u2 ∧ w.drew.cell? ⟨b', 3, none⟩ = some u3 ∧ w.drew.cell? ⟨b', 4, none⟩ = some u4 ∧ Kp W0 w.drew :=
  ⟨drew5 h.1, drew5 h.2⟩
/-- A box for a second map behind the first. -/
theorem box10 {W0 w : World} {b : Nat} {v0 v1 v2 v3 v4 : Value} (u0 u1 u2 u3 u4 : Value) (T : TypeId)
    (h : w.cell? ⟨b, 0, none⟩ = some v0 ∧ w.cell? ⟨b, 1, none⟩ = some v1 ∧ w.cell? ⟨b, 2, none⟩ = some v2 ∧ w.cell? ⟨b, 3, none⟩ = some v3 ∧ w.cell? ⟨b, 4, none⟩ = some v4 ∧ Kp W0 w) :
    ((w.alloc (.cells #[u0, u1, u2, u3, u4] T)).cell? ⟨b, 0, none⟩ = some v0 ∧ (w.alloc (.cells #[u0, u1, u2, u3, u4] T)).cell? ⟨b, 1, none⟩ = some v1 ∧ (w.alloc (.cells #[u0, u1, u2, u3, u4] T)).cell? ⟨b, 2, none⟩ = some v2 ∧ (w.alloc (.cells #[u0, u1, u2, u3, u4] T)).cell? ⟨b, 3, none⟩ = some v3 ∧ (w.alloc (.cells #[u0, u1, u2, u3, u4] T)).cell? ⟨b, 4, none⟩ = some v4 ∧ Kp W0 (w.alloc (.cells #[u0, u1, u2, u3, u4] T))) ∧
      (w.alloc (.cells #[u0, u1, u2, u3, u4] T)).cell? ⟨w.heap.size, 0, none⟩ = some u0 ∧ (w.alloc (.cells #[u0, u1, u2, u3, u4] T)).cell? ⟨w.heap.size, 1, none⟩ = some u1 ∧ (w.alloc (.cells #[u0, u1, u2, u3, u4] T)).cell? ⟨w.heap.size, 2, none⟩ = some u2 ∧ (w.alloc (.cells #[u0, u1, u2, u3, u4] T)).cell? ⟨w.heap.size, 3, none⟩ = some u3 ∧ (w.alloc (.cells #[u0, u1, u2, u3, u4] T)).cell? ⟨w.heap.size, 4, none⟩ = some u4 ∧ Kp W0 (w.alloc (.cells #[u0, u1, u2, u3, u4] T)) := by
  obtain ⟨n0, n1, n2, n3, n4, n5⟩ := new5 w u0 u1 u2 u3 u4 T
  exact ⟨keep5 n5 h, n0, n1, n2, n3, n4, h.2.2.2.2.2.trans n5⟩

theorem szMap_s (W H : Int) (At Ar Ad : Option Addr) (nt ct nr cr nd cd : Nat) (S0 : Int) (w : World) (h1 : nt ≤ 9223372036854775807) (h2 : nr ≤ 9223372036854775807) (h3 : nd ≤ 9223372036854775807) (hs : szTot nt nr nd = S0) :
    Calls Tryd.prog 17 #[mp W H (.slice At nt ct) (.slice Ar nr cr) (.slice Ad nd cd), .int .i64 1048576] w fun e w' => e = .returned (.int .i64 S0) ∧ Kp w w' := by
  rw [← hs]
  exact szMap_any W H At Ar Ad nt ct nr cr nd cd w h1 h2 h3

theorem cellsMap : Tryd.prog.cellsOf 40 = 5 := by kernel_rfl
theorem five {α : Type} {l : List α} (h : l.length = 5) {a b c d e : α} (h0 : l[0]? = some a) (h1 : l[1]? = some b) (h2 : l[2]? = some c) (h3 : l[3]? = some d) (h4 : l[4]? = some e) : l = [a, b, c, d, e] := by
  match l, h with
  | [x0, x1, x2, x3, x4], _ => simp_all

set_option maxRecDepth 100000 in
/-- An argument of type Map: two numbers and three lists. -/
theorem open_map5 {H : Type} {enc : TypeId × Value → H} {W : World} {base : Nat} {v : Value} {d : DataW H} {p : List MemPlace}
    (hv : Value.okWide Tryd.prog W .any base 40 v) (h : DataW.Trod enc Tryd.prog W 0 (fun _ => true) true 40 v d p) :
    ∃ (wd ht : Int) (t r e : Value) (lt lr ld : List Int), v = mp wd ht t r e ∧ Reads W t r e lt lr ld := by
  obtain ⟨cs, n, rfl, hl, hf⟩ := open_fields Tryd.underlying40 (by kernel_rfl) cellsMap rfl hv h
  obtain ⟨c0, y0, q0, h0⟩ := hf 0 _ rfl
  obtain ⟨c1, y1, q1, h1⟩ := hf 1 _ rfl
  obtain ⟨c2, y2, q2, h2⟩ := hf 2 _ rfl
  obtain ⟨c3, y3, q3, h3⟩ := hf 3 _ rfl
  obtain ⟨c4, y4, q4, h4⟩ := hf 4 _ rfl
  obtain rfl := five hl q0 q1 q2 q3 q4
  obtain ⟨a, e0, rfl, wa⟩ := DataW.trod_int Tryd.underlying3 h0
  obtain ⟨b, e1, rfl, wb⟩ := DataW.trod_int Tryd.underlying3 h1
  simp only [List.cons.injEq, and_true] at e0 e1
  subst e0 e1
  obtain ⟨lt, r1, r2, r3⟩ := rdB_of_trod h2
  obtain ⟨lr, s1, s2, s3⟩ := rdB_of_trod h3
  obtain ⟨ld, t1, t2, t3⟩ := rdB_of_trod h4
  exact ⟨a, b, c2, c3, c4, lt, lr, ld, rfl, ⟨r1, s1, t1, r2, s2, t2, r3, s3, t3⟩⟩

end Go.Proofs.YtpdcmpojjchobaaDoor

/-
  An argument of type Rules reads as two lists and five numbers.
-/
namespace Go.Proofs.YtpdcmpojjchobaaDoor
open Go.ChangeShapes Go.WideShapes Go.ChangeAt Go.RowKit Go.Joins Go.Deep

theorem RulIn.keep {w w' : World} {At Ak : Option Addr} {nt nk : Nat} {l : List Ter} {m : List Knd} (h : RulIn w At Ak nt nk l m) (k : Kp w w') : RulIn w' At Ak nt nk l m :=
  ⟨h.rt.keep k, h.rk.keep k, h.bt, h.bk, h.bc, h.bn⟩

theorem cellsTer : Tryd.prog.cellsOf 103 = 5 := by kernel_rfl
theorem cellsKnd : Tryd.prog.cellsOf 105 = 6 := by kernel_rfl
theorem cellsRul : Tryd.prog.cellsOf 25 = 7 := by kernel_rfl

set_option maxRecDepth 100000 in
theorem rdT_of_trod {H : Type} {enc : TypeId × Value → H} {W : World} {v : Value} {n : Nat} {y : DataW H × List MemPlace}
    (hf : DataW.trod enc Tryd.prog W 0 (fun _ => true) true n 22 [v] = some y) : ∃ (A : Option Addr) (n c : Nat) (l : List Ter), v = .slice A n c ∧ RdT W A n l ∧ n ≤ 9223372036854775807 ∧ (∀ x ∈ l, x.cost.length ≤ 9223372036854775807 ∧ x.name.size ≤ 9223372036854775807) ∧ ∀ x ∈ l, ∀ z ∈ x.cost, -9223372036854775808 ≤ z ∧ z ≤ 9223372036854775807 := by
  obtain ⟨A, n, c, l, rfl, hl, hm, hr⟩ := rd_structs (α := Ter) (fun g o x => TerAt W g o x ∧ (x.cost.length ≤ 9223372036854775807 ∧ x.name.size ≤ 9223372036854775807) ∧ ∀ z ∈ x.cost, -9223372036854775808 ≤ z ∧ z ≤ 9223372036854775807) cellsTer Tryd.underlying22 hf (fun a fu cs x hcl hat hx => by
    obtain ⟨k, hk⟩ := fields_of_trod Tryd.underlying103 (by kernel_rfl) rfl hcl hx
    obtain ⟨c0, y0, q0, h0⟩ := hk 0 _ rfl
    obtain ⟨c1, y1, q1, h1⟩ := hk 1 _ rfl
    obtain ⟨c2, y2, q2, h2⟩ := hk 2 _ rfl
    obtain ⟨c3, y3, q3, h3⟩ := hk 3 _ rfl
    obtain ⟨c4, y4, q4, h4⟩ := hk 4 _ rfl
    obtain ⟨s, e0, _, ws⟩ := DataW.trod_string Tryd.underlying9 h0
    obtain ⟨lc, r1, r2, r3⟩ := rdB_of_trod h1
    obtain ⟨z2, e2, _, w2⟩ := DataW.trod_int Tryd.underlying3 h2
    obtain ⟨z3, e3, _, w3⟩ := DataW.trod_int Tryd.underlying3 h3
    obtain ⟨z4, e4, _⟩ := DataW.trod_bool Tryd.underlying4 h4
    simp only [List.cons.injEq, and_true] at e0 e2 e3 e4
    subst e0 e2 e3 e4
    have g0 := (hat 0 (by omega)).trans q0
    have g1 := (hat 1 (by omega)).trans q1
    have g2 := (hat 2 (by omega)).trans q2
    have g3 := (hat 3 (by omega)).trans q3
    have g4 := (hat 4 (by omega)).trans q4
    obtain ⟨b, off, spot⟩ := a
    have hspot : spot = none := by
      have := World.cell?_spot g0
      simpa [Addr.add] using this
    subst hspot
    rw [add_none'] at g0 g1 g2 g3 g4
    obtain ⟨A1, c1', rfl⟩ := r1.shape
    unfold maxLen at ws
    exact ⟨rfl, ⟨s, lc, z2, z3, z4⟩, ⟨A1, c1', ⟨g0, g1, g2, g3, g4⟩, r1⟩, ⟨r2, by simp only; omega⟩, r3⟩)
  have mem : ∀ x ∈ l, ∃ g o, TerAt W g o x ∧ (x.cost.length ≤ 9223372036854775807 ∧ x.name.size ≤ 9223372036854775807) ∧ ∀ z ∈ x.cost, -9223372036854775808 ≤ z ∧ z ≤ 9223372036854775807 := fun x hx => by
    obtain ⟨i, hi, rfl⟩ := List.mem_iff_getElem.1 hx
    obtain ⟨g, off, rfl, hc⟩ := hr (by omega)
    exact ⟨_, _, hc i _ (List.getElem?_eq_getElem hi)⟩
  unfold maxLen at hm
  refine ⟨A, n, c, l, rfl, ⟨hl, fun h0 => ?_⟩, by omega, fun x hx => ?_, fun x hx => ?_⟩
  · obtain ⟨g, off, e, hc⟩ := hr h0
    exact ⟨g, off, e, fun i x hx => (hc i x hx).1⟩
  · obtain ⟨_, _, _, h, _⟩ := mem x hx
    exact h
  · obtain ⟨_, _, _, _, h⟩ := mem x hx
    exact h

set_option maxRecDepth 100000 in
theorem rdK_of_trod {H : Type} {enc : TypeId × Value → H} {W : World} {v : Value} {n : Nat} {y : DataW H × List MemPlace}
    (hf : DataW.trod enc Tryd.prog W 0 (fun _ => true) true n 23 [v] = some y) : ∃ (A : Option Addr) (n c : Nat) (l : List Knd), v = .slice A n c ∧ RdK W A n l ∧ n ≤ 9223372036854775807 ∧ ∀ x ∈ l, x.name.size ≤ 9223372036854775807 := by
  obtain ⟨A, n, c, l, rfl, hl, hm, hr⟩ := rd_structs (α := Knd) (fun g o x => KndAt W g o x ∧ x.name.size ≤ 9223372036854775807) cellsKnd Tryd.underlying23 hf (fun a fu cs x hcl hat hx => by
    obtain ⟨k, hk⟩ := fields_of_trod Tryd.underlying105 (by kernel_rfl) rfl hcl hx
    obtain ⟨c0, y0, q0, h0⟩ := hk 0 _ rfl
    obtain ⟨c1, y1, q1, h1⟩ := hk 1 _ rfl
    obtain ⟨c2, y2, q2, h2⟩ := hk 2 _ rfl
    obtain ⟨c3, y3, q3, h3⟩ := hk 3 _ rfl
    obtain ⟨c4, y4, q4, h4⟩ := hk 4 _ rfl
    obtain ⟨c5, y5, q5, h5⟩ := hk 5 _ rfl
    obtain ⟨s, e0, _, ws⟩ := DataW.trod_string Tryd.underlying9 h0
    obtain ⟨z1, e1, _, w1⟩ := DataW.trod_int Tryd.underlying3 h1
    obtain ⟨z2, e2, _, w2⟩ := DataW.trod_int Tryd.underlying3 h2
    obtain ⟨z3, e3, _, w3⟩ := DataW.trod_int Tryd.underlying3 h3
    obtain ⟨z4, e4, _⟩ := DataW.trod_bool Tryd.underlying4 h4
    obtain ⟨z5, e5, _, w5⟩ := DataW.trod_int Tryd.underlying3 h5
    simp only [List.cons.injEq, and_true] at e0 e1 e2 e3 e4 e5
    subst e0 e1 e2 e3 e4 e5
    have g0 := (hat 0 (by omega)).trans q0
    have g1 := (hat 1 (by omega)).trans q1
    have g2 := (hat 2 (by omega)).trans q2
    have g3 := (hat 3 (by omega)).trans q3
    have g4 := (hat 4 (by omega)).trans q4
    have g5 := (hat 5 (by omega)).trans q5
    obtain ⟨b, off, spot⟩ := a
    have hspot : spot = none := by
      have := World.cell?_spot g0
      simpa [Addr.add] using this
    subst hspot
    rw [add_none'] at g0 g1 g2 g3 g4 g5
    unfold maxLen at ws
    exact ⟨rfl, ⟨s, z1, z2, z3, z4, z5⟩, ⟨g0, g1, g2, g3, g4, g5⟩, by simp only; omega⟩)
  unfold maxLen at hm
  refine ⟨A, n, c, l, rfl, ⟨hl, fun h0 => ?_⟩, by omega, fun x hx => ?_⟩
  · obtain ⟨g, off, e, hc⟩ := hr h0
    exact ⟨g, off, e, fun i x hx => (hc i x hx).1⟩
  · obtain ⟨i, hi, rfl⟩ := List.mem_iff_getElem.1 hx
    obtain ⟨g, off, rfl, hc⟩ := hr (by omega)
    exact (hc i _ (List.getElem?_eq_getElem hi)).2

theorem seven {α : Type} {l : List α} (h : l.length = 7) {a b c d e f g : α} (h0 : l[0]? = some a) (h1 : l[1]? = some b) (h2 : l[2]? = some c) (h3 : l[3]? = some d) (h4 : l[4]? = some e) (h5 : l[5]? = some f) (h6 : l[6]? = some g) : l = [a, b, c, d, e, f, g] := by
  match l, h with
  | [x0, x1, x2, x3, x4, x5, x6], _ => simp_all

set_option maxRecDepth 100000 in
/-- Seven cells that read as rules. -/
theorem rules_cells {H : Type} {enc : TypeId × Value → H} {W : World} {cs : List Value} {n : Nat} (hl : cs.length = 7)
    (hf : ∀ (j : Nat) (f : Field), (match Tryd.prog.underlying 25 with | some (.struct fs) => fs | _ => #[])[j]? = some f → ∃ c y, cs[j]? = some c ∧ DataW.trod enc Tryd.prog W 0 (fun _ => true) true n f.type [c] = some y) :
    ∃ (At Ak : Option Addr) (nt nk ct ck : Nat) (l : List Ter) (m : List Knd) (a b c d e : Int), cs = [.slice At nt ct, .slice Ak nk ck, .int .i64 a, .int .i64 b, .int .i64 c, .int .i64 d, .int .i64 e] ∧ RulIn W At Ak nt nk l m ∧ ∀ x ∈ l, ∀ z ∈ x.cost, -9223372036854775808 ≤ z ∧ z ≤ 9223372036854775807 := by
  rw [Tryd.underlying25] at hf
  obtain ⟨c0, y0, q0, h0⟩ := hf 0 _ rfl
  obtain ⟨c1, y1, q1, h1⟩ := hf 1 _ rfl
  obtain ⟨c2, y2, q2, h2⟩ := hf 2 _ rfl
  obtain ⟨c3, y3, q3, h3⟩ := hf 3 _ rfl
  obtain ⟨c4, y4, q4, h4⟩ := hf 4 _ rfl
  obtain ⟨c5, y5, q5, h5⟩ := hf 5 _ rfl
  obtain ⟨c6, y6, q6, h6⟩ := hf 6 _ rfl
  obtain rfl := seven hl q0 q1 q2 q3 q4 q5 q6
  obtain ⟨At, nt, ct, l, rfl, r1, r2, r3, r4⟩ := rdT_of_trod h0
  obtain ⟨Ak, nk, ck, m, rfl, s1, s2, s3⟩ := rdK_of_trod h1
  obtain ⟨a, e2, _, _⟩ := DataW.trod_int Tryd.underlying3 h2
  obtain ⟨b, e3, _, _⟩ := DataW.trod_int Tryd.underlying3 h3
  obtain ⟨c, e4, _, _⟩ := DataW.trod_int Tryd.underlying3 h4
  obtain ⟨d, e5, _, _⟩ := DataW.trod_int Tryd.underlying3 h5
  obtain ⟨e, e6, _, _⟩ := DataW.trod_int Tryd.underlying3 h6
  simp only [List.cons.injEq, and_true] at e2 e3 e4 e5 e6
  subst e2 e3 e4 e5 e6
  exact ⟨At, Ak, nt, nk, ct, ck, l, m, a, b, c, d, e, rfl, ⟨r1, s1, r2, s2, r3, s3⟩, r4⟩

set_option maxRecDepth 100000 in
/-- An argument of type Rules. -/
theorem open_rules {H : Type} {enc : TypeId × Value → H} {W : World} {base : Nat} {v : Value} {d : DataW H} {p : List MemPlace}
    (hv : Value.okWide Tryd.prog W .any base 25 v) (h : DataW.Trod enc Tryd.prog W 0 (fun _ => true) true 25 v d p) :
    ∃ (At Ak : Option Addr) (nt nk ct ck : Nat) (l : List Ter) (m : List Knd) (a b c d e : Int), v = rv (.slice At nt ct) (.slice Ak nk ck) a b c d e ∧ RulIn W At Ak nt nk l m ∧ ∀ x ∈ l, ∀ z ∈ x.cost, -9223372036854775808 ≤ z ∧ z ≤ 9223372036854775807 := by
  obtain ⟨cs, n, rfl, hl, hf⟩ := open_fields Tryd.underlying25 (by kernel_rfl) cellsRul rfl hv h
  obtain ⟨At, Ak, nt, nk, ct, ck, l, m, a, b, c, d, e, rfl, h1, h2⟩ := rules_cells (n := n) hl (by rw [Tryd.underlying25]; exact hf)
  exact ⟨At, Ak, nt, nk, ct, ck, l, m, a, b, c, d, e, rfl, h1, h2⟩

end Go.Proofs.YtpdcmpojjchobaaDoor

/-
  What the rows' lists say of the ranges and of the table of directions, cell by cell; a world for the witness in which they lie.
-/
namespace Go.Proofs.YtpdcmpojjchobaaDoor
open Go.ChangeShapes Go.WideShapes Go.ChangeAt Go.RowKit Go.Joins

theorem terrainsG : Tryd.prog.globalNamed "loop.example/g00886/impl.terrainsSpan" = some 2 := by kernel_rfl
theorem terrainsTy : (Tryd.prog.globals[2]?).map (·.type) = some 113 := by kernel_rfl
theorem costG : Tryd.prog.globalNamed "loop.example/g00886/impl.costSpan" = some 9 := by kernel_rfl
theorem costTy : (Tryd.prog.globals[9]?).map (·.type) = some 113 := by kernel_rfl
theorem shiftG : Tryd.prog.globalNamed "loop.example/g00886/impl.shiftSpan" = some 10 := by kernel_rfl
theorem shiftTy : (Tryd.prog.globals[10]?).map (·.type) = some 113 := by kernel_rfl
theorem heightG : Tryd.prog.globalNamed "loop.example/g00886/impl.heightSpan" = some 11 := by kernel_rfl
theorem heightTy : (Tryd.prog.globals[11]?).map (·.type) = some 113 := by kernel_rfl
theorem kindsG : Tryd.prog.globalNamed "loop.example/g00886/impl.kindsSpan" = some 3 := by kernel_rfl
theorem kindsTy : (Tryd.prog.globals[3]?).map (·.type) = some 113 := by kernel_rfl
theorem strengthG : Tryd.prog.globalNamed "loop.example/g00886/impl.strengthSpan" = some 12 := by kernel_rfl
theorem strengthTy : (Tryd.prog.globals[12]?).map (·.type) = some 113 := by kernel_rfl
theorem movesG : Tryd.prog.globalNamed "loop.example/g00886/impl.movesSpan" = some 13 := by kernel_rfl
theorem movesTy : (Tryd.prog.globals[13]?).map (·.type) = some 113 := by kernel_rfl
theorem stepsG : Tryd.prog.globalNamed "loop.example/g00886/impl.stepsSpan" = some 14 := by kernel_rfl
theorem stepsTy : (Tryd.prog.globals[14]?).map (·.type) = some 113 := by kernel_rfl
theorem viewG : Tryd.prog.globalNamed "loop.example/g00886/impl.viewSpan" = some 15 := by kernel_rfl
theorem viewTy : (Tryd.prog.globals[15]?).map (·.type) = some 113 := by kernel_rfl
theorem stackG : Tryd.prog.globalNamed "loop.example/g00886/impl.stackSpan" = some 4 := by kernel_rfl
theorem stackTy : (Tryd.prog.globals[4]?).map (·.type) = some 113 := by kernel_rfl
theorem riverG : Tryd.prog.globalNamed "loop.example/g00886/impl.riverSpan" = some 5 := by kernel_rfl
theorem riverTy : (Tryd.prog.globals[5]?).map (·.type) = some 113 := by kernel_rfl
theorem roadG : Tryd.prog.globalNamed "loop.example/g00886/impl.roadSpan" = some 6 := by kernel_rfl
theorem roadTy : (Tryd.prog.globals[6]?).map (·.type) = some 113 := by kernel_rfl
theorem supplyG : Tryd.prog.globalNamed "loop.example/g00886/impl.supplySpan" = some 7 := by kernel_rfl
theorem supplyTy : (Tryd.prog.globals[7]?).map (·.type) = some 113 := by kernel_rfl
theorem turnsG : Tryd.prog.globalNamed "loop.example/g00886/impl.turnsSpan" = some 8 := by kernel_rfl
theorem turnsTy : (Tryd.prog.globals[8]?).map (·.type) = some 113 := by kernel_rfl

theorem spans14 {W : World} (h : laidMetH Tryd.prog [("loop.example/g00886/impl.terrainsSpan", Rows.laid_loop_example_g00886_impl_terrainsSpan), ("loop.example/g00886/impl.costSpan", Rows.laid_loop_example_g00886_impl_costSpan), ("loop.example/g00886/impl.shiftSpan", Rows.laid_loop_example_g00886_impl_shiftSpan), ("loop.example/g00886/impl.heightSpan", Rows.laid_loop_example_g00886_impl_heightSpan), ("loop.example/g00886/impl.kindsSpan", Rows.laid_loop_example_g00886_impl_kindsSpan), ("loop.example/g00886/impl.strengthSpan", Rows.laid_loop_example_g00886_impl_strengthSpan), ("loop.example/g00886/impl.movesSpan", Rows.laid_loop_example_g00886_impl_movesSpan), ("loop.example/g00886/impl.stepsSpan", Rows.laid_loop_example_g00886_impl_stepsSpan), ("loop.example/g00886/impl.viewSpan", Rows.laid_loop_example_g00886_impl_viewSpan), ("loop.example/g00886/impl.stackSpan", Rows.laid_loop_example_g00886_impl_stackSpan), ("loop.example/g00886/impl.riverSpan", Rows.laid_loop_example_g00886_impl_riverSpan), ("loop.example/g00886/impl.roadSpan", Rows.laid_loop_example_g00886_impl_roadSpan), ("loop.example/g00886/impl.supplySpan", Rows.laid_loop_example_g00886_impl_supplySpan), ("loop.example/g00886/impl.turnsSpan", Rows.laid_loop_example_g00886_impl_turnsSpan)] W) : Spans W := by
  have h' : laidMet Tryd.prog [("loop.example/g00886/impl.terrainsSpan", Rows.laid_loop_example_g00886_impl_terrainsSpan), ("loop.example/g00886/impl.costSpan", Rows.laid_loop_example_g00886_impl_costSpan), ("loop.example/g00886/impl.shiftSpan", Rows.laid_loop_example_g00886_impl_shiftSpan), ("loop.example/g00886/impl.heightSpan", Rows.laid_loop_example_g00886_impl_heightSpan), ("loop.example/g00886/impl.kindsSpan", Rows.laid_loop_example_g00886_impl_kindsSpan), ("loop.example/g00886/impl.strengthSpan", Rows.laid_loop_example_g00886_impl_strengthSpan), ("loop.example/g00886/impl.movesSpan", Rows.laid_loop_example_g00886_impl_movesSpan), ("loop.example/g00886/impl.stepsSpan", Rows.laid_loop_example_g00886_impl_stepsSpan), ("loop.example/g00886/impl.viewSpan", Rows.laid_loop_example_g00886_impl_viewSpan), ("loop.example/g00886/impl.stackSpan", Rows.laid_loop_example_g00886_impl_stackSpan), ("loop.example/g00886/impl.riverSpan", Rows.laid_loop_example_g00886_impl_riverSpan), ("loop.example/g00886/impl.roadSpan", Rows.laid_loop_example_g00886_impl_roadSpan), ("loop.example/g00886/impl.supplySpan", Rows.laid_loop_example_g00886_impl_supplySpan), ("loop.example/g00886/impl.turnsSpan", Rows.laid_loop_example_g00886_impl_turnsSpan)] W := h
  obtain ⟨ps, hl, _⟩ := h'
  exact ⟨span_of terrainsG terrainsTy (laid_one hl (.head _)), span_of costG costTy (laid_one hl (.tail _ (.head _))), span_of shiftG shiftTy (laid_one hl (.tail _ (.tail _ (.head _)))), span_of heightG heightTy (laid_one hl (.tail _ (.tail _ (.tail _ (.head _))))), span_of kindsG kindsTy (laid_one hl (.tail _ (.tail _ (.tail _ (.tail _ (.head _)))))), span_of strengthG strengthTy (laid_one hl (.tail _ (.tail _ (.tail _ (.tail _ (.tail _ (.head _))))))), span_of movesG movesTy (laid_one hl (.tail _ (.tail _ (.tail _ (.tail _ (.tail _ (.tail _ (.head _)))))))), span_of stepsG stepsTy (laid_one hl (.tail _ (.tail _ (.tail _ (.tail _ (.tail _ (.tail _ (.tail _ (.head _))))))))), span_of viewG viewTy (laid_one hl (.tail _ (.tail _ (.tail _ (.tail _ (.tail _ (.tail _ (.tail _ (.tail _ (.head _)))))))))), span_of stackG stackTy (laid_one hl (.tail _ (.tail _ (.tail _ (.tail _ (.tail _ (.tail _ (.tail _ (.tail _ (.tail _ (.head _))))))))))), span_of riverG riverTy (laid_one hl (.tail _ (.tail _ (.tail _ (.tail _ (.tail _ (.tail _ (.tail _ (.tail _ (.tail _ (.tail _ (.head _)))))))))))), span_of roadG roadTy (laid_one hl (.tail _ (.tail _ (.tail _ (.tail _ (.tail _ (.tail _ (.tail _ (.tail _ (.tail _ (.tail _ (.tail _ (.head _))))))))))))), span_of supplyG supplyTy (laid_one hl (.tail _ (.tail _ (.tail _ (.tail _ (.tail _ (.tail _ (.tail _ (.tail _ (.tail _ (.tail _ (.tail _ (.tail _ (.head _)))))))))))))), span_of turnsG turnsTy (laid_one hl (.tail _ (.tail _ (.tail _ (.tail _ (.tail _ (.tail _ (.tail _ (.tail _ (.tail _ (.tail _ (.tail _ (.tail _ (.tail _ (.head _)))))))))))))))⟩

theorem spans15 {W : World} (h : laidMetH Tryd.prog [("loop.example/g00886/impl.directionSteps", Rows.laid_loop_example_g00886_impl_directionSteps), ("loop.example/g00886/impl.terrainsSpan", Rows.laid_loop_example_g00886_impl_terrainsSpan), ("loop.example/g00886/impl.costSpan", Rows.laid_loop_example_g00886_impl_costSpan), ("loop.example/g00886/impl.shiftSpan", Rows.laid_loop_example_g00886_impl_shiftSpan), ("loop.example/g00886/impl.heightSpan", Rows.laid_loop_example_g00886_impl_heightSpan), ("loop.example/g00886/impl.kindsSpan", Rows.laid_loop_example_g00886_impl_kindsSpan), ("loop.example/g00886/impl.strengthSpan", Rows.laid_loop_example_g00886_impl_strengthSpan), ("loop.example/g00886/impl.movesSpan", Rows.laid_loop_example_g00886_impl_movesSpan), ("loop.example/g00886/impl.stepsSpan", Rows.laid_loop_example_g00886_impl_stepsSpan), ("loop.example/g00886/impl.viewSpan", Rows.laid_loop_example_g00886_impl_viewSpan), ("loop.example/g00886/impl.stackSpan", Rows.laid_loop_example_g00886_impl_stackSpan), ("loop.example/g00886/impl.riverSpan", Rows.laid_loop_example_g00886_impl_riverSpan), ("loop.example/g00886/impl.roadSpan", Rows.laid_loop_example_g00886_impl_roadSpan), ("loop.example/g00886/impl.supplySpan", Rows.laid_loop_example_g00886_impl_supplySpan), ("loop.example/g00886/impl.turnsSpan", Rows.laid_loop_example_g00886_impl_turnsSpan)] W) : Spans W := by
  have h' : laidMet Tryd.prog [("loop.example/g00886/impl.directionSteps", Rows.laid_loop_example_g00886_impl_directionSteps), ("loop.example/g00886/impl.terrainsSpan", Rows.laid_loop_example_g00886_impl_terrainsSpan), ("loop.example/g00886/impl.costSpan", Rows.laid_loop_example_g00886_impl_costSpan), ("loop.example/g00886/impl.shiftSpan", Rows.laid_loop_example_g00886_impl_shiftSpan), ("loop.example/g00886/impl.heightSpan", Rows.laid_loop_example_g00886_impl_heightSpan), ("loop.example/g00886/impl.kindsSpan", Rows.laid_loop_example_g00886_impl_kindsSpan), ("loop.example/g00886/impl.strengthSpan", Rows.laid_loop_example_g00886_impl_strengthSpan), ("loop.example/g00886/impl.movesSpan", Rows.laid_loop_example_g00886_impl_movesSpan), ("loop.example/g00886/impl.stepsSpan", Rows.laid_loop_example_g00886_impl_stepsSpan), ("loop.example/g00886/impl.viewSpan", Rows.laid_loop_example_g00886_impl_viewSpan), ("loop.example/g00886/impl.stackSpan", Rows.laid_loop_example_g00886_impl_stackSpan), ("loop.example/g00886/impl.riverSpan", Rows.laid_loop_example_g00886_impl_riverSpan), ("loop.example/g00886/impl.roadSpan", Rows.laid_loop_example_g00886_impl_roadSpan), ("loop.example/g00886/impl.supplySpan", Rows.laid_loop_example_g00886_impl_supplySpan), ("loop.example/g00886/impl.turnsSpan", Rows.laid_loop_example_g00886_impl_turnsSpan)] W := h
  obtain ⟨ps, hl, _⟩ := h'
  exact ⟨span_of terrainsG terrainsTy (laid_one hl (.tail _ (.head _))), span_of costG costTy (laid_one hl (.tail _ (.tail _ (.head _)))), span_of shiftG shiftTy (laid_one hl (.tail _ (.tail _ (.tail _ (.head _))))), span_of heightG heightTy (laid_one hl (.tail _ (.tail _ (.tail _ (.tail _ (.head _)))))), span_of kindsG kindsTy (laid_one hl (.tail _ (.tail _ (.tail _ (.tail _ (.tail _ (.head _))))))), span_of strengthG strengthTy (laid_one hl (.tail _ (.tail _ (.tail _ (.tail _ (.tail _ (.tail _ (.head _)))))))), span_of movesG movesTy (laid_one hl (.tail _ (.tail _ (.tail _ (.tail _ (.tail _ (.tail _ (.tail _ (.head _))))))))), span_of stepsG stepsTy (laid_one hl (.tail _ (.tail _ (.tail _ (.tail _ (.tail _ (.tail _ (.tail _ (.tail _ (.head _)))))))))), span_of viewG viewTy (laid_one hl (.tail _ (.tail _ (.tail _ (.tail _ (.tail _ (.tail _ (.tail _ (.tail _ (.tail _ (.head _))))))))))), span_of stackG stackTy (laid_one hl (.tail _ (.tail _ (.tail _ (.tail _ (.tail _ (.tail _ (.tail _ (.tail _ (.tail _ (.tail _ (.head _)))))))))))), span_of riverG riverTy (laid_one hl (.tail _ (.tail _ (.tail _ (.tail _ (.tail _ (.tail _ (.tail _ (.tail _ (.tail _ (.tail _ (.tail _ (.head _))))))))))))), span_of roadG roadTy (laid_one hl (.tail _ (.tail _ (.tail _ (.tail _ (.tail _ (.tail _ (.tail _ (.tail _ (.tail _ (.tail _ (.tail _ (.tail _ (.head _)))))))))))))), span_of supplyG supplyTy (laid_one hl (.tail _ (.tail _ (.tail _ (.tail _ (.tail _ (.tail _ (.tail _ (.tail _ (.tail _ (.tail _ (.tail _ (.tail _ (.tail _ (.head _))))))))))))))), span_of turnsG turnsTy (laid_one hl (.tail _ (.tail _ (.tail _ (.tail _ (.tail _ (.tail _ (.tail _ (.tail _ (.tail _ (.tail _ (.tail _ (.tail _ (.tail _ (.tail _ (.head _))))))))))))))))⟩

theorem tab15 {W : World} (h : laidMetH Tryd.prog [("loop.example/g00886/impl.directionSteps", Rows.laid_loop_example_g00886_impl_directionSteps), ("loop.example/g00886/impl.terrainsSpan", Rows.laid_loop_example_g00886_impl_terrainsSpan), ("loop.example/g00886/impl.costSpan", Rows.laid_loop_example_g00886_impl_costSpan), ("loop.example/g00886/impl.shiftSpan", Rows.laid_loop_example_g00886_impl_shiftSpan), ("loop.example/g00886/impl.heightSpan", Rows.laid_loop_example_g00886_impl_heightSpan), ("loop.example/g00886/impl.kindsSpan", Rows.laid_loop_example_g00886_impl_kindsSpan), ("loop.example/g00886/impl.strengthSpan", Rows.laid_loop_example_g00886_impl_strengthSpan), ("loop.example/g00886/impl.movesSpan", Rows.laid_loop_example_g00886_impl_movesSpan), ("loop.example/g00886/impl.stepsSpan", Rows.laid_loop_example_g00886_impl_stepsSpan), ("loop.example/g00886/impl.viewSpan", Rows.laid_loop_example_g00886_impl_viewSpan), ("loop.example/g00886/impl.stackSpan", Rows.laid_loop_example_g00886_impl_stackSpan), ("loop.example/g00886/impl.riverSpan", Rows.laid_loop_example_g00886_impl_riverSpan), ("loop.example/g00886/impl.roadSpan", Rows.laid_loop_example_g00886_impl_roadSpan), ("loop.example/g00886/impl.supplySpan", Rows.laid_loop_example_g00886_impl_supplySpan), ("loop.example/g00886/impl.turnsSpan", Rows.laid_loop_example_g00886_impl_turnsSpan)] W) : Tab W := by
  have h' : laidMet Tryd.prog [("loop.example/g00886/impl.directionSteps", Rows.laid_loop_example_g00886_impl_directionSteps), ("loop.example/g00886/impl.terrainsSpan", Rows.laid_loop_example_g00886_impl_terrainsSpan), ("loop.example/g00886/impl.costSpan", Rows.laid_loop_example_g00886_impl_costSpan), ("loop.example/g00886/impl.shiftSpan", Rows.laid_loop_example_g00886_impl_shiftSpan), ("loop.example/g00886/impl.heightSpan", Rows.laid_loop_example_g00886_impl_heightSpan), ("loop.example/g00886/impl.kindsSpan", Rows.laid_loop_example_g00886_impl_kindsSpan), ("loop.example/g00886/impl.strengthSpan", Rows.laid_loop_example_g00886_impl_strengthSpan), ("loop.example/g00886/impl.movesSpan", Rows.laid_loop_example_g00886_impl_movesSpan), ("loop.example/g00886/impl.stepsSpan", Rows.laid_loop_example_g00886_impl_stepsSpan), ("loop.example/g00886/impl.viewSpan", Rows.laid_loop_example_g00886_impl_viewSpan), ("loop.example/g00886/impl.stackSpan", Rows.laid_loop_example_g00886_impl_stackSpan), ("loop.example/g00886/impl.riverSpan", Rows.laid_loop_example_g00886_impl_riverSpan), ("loop.example/g00886/impl.roadSpan", Rows.laid_loop_example_g00886_impl_roadSpan), ("loop.example/g00886/impl.supplySpan", Rows.laid_loop_example_g00886_impl_supplySpan), ("loop.example/g00886/impl.turnsSpan", Rows.laid_loop_example_g00886_impl_turnsSpan)] W := h
  obtain ⟨ps, ⟨g, t, cs, fuel, p, q, h1, h2, h3, h4, _, _⟩, _⟩ := h'
  exact tab_of_laid1 ⟨g, t, cs, fuel, p, h1, h2, h3, h4⟩

noncomputable def laidWorldS (os : Os) : World :=
  setVar (setVar (setVar (setVar (setVar (setVar (setVar (setVar (setVar (setVar (setVar (setVar (setVar (setVar (laidWorld os) 2 #[.int .i64 1, .int .i64 6]) 9 #[.int .i64 0, .int .i64 9]) 10 #[.int .i64 (-3), .int .i64 3]) 11 #[.int .i64 0, .int .i64 3]) 3 #[.int .i64 1, .int .i64 4]) 12 #[.int .i64 1, .int .i64 9]) 13 #[.int .i64 0, .int .i64 9]) 14 #[.int .i64 1, .int .i64 4]) 15 #[.int .i64 0, .int .i64 4]) 4 #[.int .i64 1, .int .i64 4]) 5 #[.int .i64 0, .int .i64 9]) 6 #[.int .i64 1, .int .i64 9]) 7 #[.int .i64 0, .int .i64 20]) 8 #[.int .i64 1, .int .i64 30]

theorem len14 {α : Type} {l : List α} (h : l.length = 14) : ∃ x0 x1 x2 x3 x4 x5 x6 x7 x8 x9 x10 x11 x12 x13, l = [x0, x1, x2, x3, x4, x5, x6, x7, x8, x9, x10, x11, x12, x13] := by
  match l, h with
  | [x0, x1, x2, x3, x4, x5, x6, x7, x8, x9, x10, x11, x12, x13], _ => exact ⟨_, _, _, _, _, _, _, _, _, _, _, _, _, _, rfl⟩
theorem len15 {α : Type} {l : List α} (h : l.length = 15) : ∃ x0 x1 x2 x3 x4 x5 x6 x7 x8 x9 x10 x11 x12 x13 x14, l = [x0, x1, x2, x3, x4, x5, x6, x7, x8, x9, x10, x11, x12, x13, x14] := by
  match l, h with
  | [x0, x1, x2, x3, x4, x5, x6, x7, x8, x9, x10, x11, x12, x13, x14], _ => exact ⟨_, _, _, _, _, _, _, _, _, _, _, _, _, _, _, rfl⟩

end Go.Proofs.YtpdcmpojjchobaaDoor

/-
  What the rows of the laws on texts say of the named variables, cell by cell; a world for the witness in which they lie.
-/
namespace Go.Proofs.YtpdcmpojjchobaaDoor
open Go.ChangeShapes Go.WideShapes Go.ChangeAt Go.RowKit Go.Joins

theorem pow10G : Tryd.prog.globalNamed "internal/strconv.uint64pow10" = some 23 := by kernel_rfl
theorem pow10Ty : (Tryd.prog.globals[23]?).map (·.type) = some 211 := by kernel_rfl
/-- The table of powers of ten, as its text lays it. -/
def PowAt (w : World) : Prop := Lib.TabIs Tryd.prog w "internal/strconv.uint64pow10" .u64 Lib.pow10Tab
theorem pow_of {W : World} (h : ∃ g t cs fuel p, Tryd.prog.globalNamed "internal/strconv.uint64pow10" = some g ∧ (Tryd.prog.globals[g]?).map (·.type) = some t ∧ W.var? Tryd.prog "internal/strconv.uint64pow10" = some cs ∧ DataW.trod (fun _ => ()) Tryd.prog W 0 (fun _ => true) false fuel t cs.toList = some (Rows.laid_internal_strconv_uint64pow10, p)) : PowAt W := by
  obtain ⟨g', t', cs, fuel, p, hg', ht', hvar, hd⟩ := h
  obtain rfl := Option.some.inj (pow10G.symm.trans hg')
  obtain rfl := Option.some.inj (pow10Ty.symm.trans ht')
  have hd' : DataW.trod (fun _ => ()) Tryd.prog W 0 (fun _ => true) false fuel 211 cs.toList = some (Lib.tabData .u64 Lib.pow10Tab, p) := hd
  show Lib.TabIs _ _ _ _ _
  unfold Lib.TabIs
  rw [hvar, ← Lib.cells_of_tab Tryd.underlying211 Tryd.underlying186 (by kernel_rfl) (by kernel_rfl) hd']
theorem PowAt.keep {w w' : World} (h : PowAt w) (k : Kp w w') : PowAt w' := by
  have hc := World.var?_cell pow10G h 0
  exact var?_below k pow10G (cell_lt (v := .int .u64 1) (hc.trans rfl)) h

def datCells (d : DataW Unit) : Array Value := match d with | .agg xs => (xs.map fun x => match x with | .lit (.int k n) => Value.int k n | _ => undef).toArray | _ => #[]

theorem kindLine_sp {W : World} (h : laidMetH Tryd.prog [("math/bits.deBruijn32tab", Rows.laid_math_bits_deBruijn32tab), ("math/bits.deBruijn64tab", Rows.laid_math_bits_deBruijn64tab), ("internal/strconv.uint64pow10", Rows.laid_internal_strconv_uint64pow10), ("unicode/utf8.acceptRanges", Rows.laid_unicode_utf8_acceptRanges), ("loop.example/g00886/impl.terrainsSpan", Rows.laid_loop_example_g00886_impl_terrainsSpan), ("loop.example/g00886/impl.costSpan", Rows.laid_loop_example_g00886_impl_costSpan), ("loop.example/g00886/impl.shiftSpan", Rows.laid_loop_example_g00886_impl_shiftSpan), ("loop.example/g00886/impl.heightSpan", Rows.laid_loop_example_g00886_impl_heightSpan), ("loop.example/g00886/impl.kindsSpan", Rows.laid_loop_example_g00886_impl_kindsSpan), ("loop.example/g00886/impl.strengthSpan", Rows.laid_loop_example_g00886_impl_strengthSpan), ("loop.example/g00886/impl.movesSpan", Rows.laid_loop_example_g00886_impl_movesSpan), ("loop.example/g00886/impl.stepsSpan", Rows.laid_loop_example_g00886_impl_stepsSpan), ("loop.example/g00886/impl.viewSpan", Rows.laid_loop_example_g00886_impl_viewSpan), ("loop.example/g00886/impl.stackSpan", Rows.laid_loop_example_g00886_impl_stackSpan), ("loop.example/g00886/impl.riverSpan", Rows.laid_loop_example_g00886_impl_riverSpan), ("loop.example/g00886/impl.roadSpan", Rows.laid_loop_example_g00886_impl_roadSpan), ("loop.example/g00886/impl.supplySpan", Rows.laid_loop_example_g00886_impl_supplySpan), ("loop.example/g00886/impl.turnsSpan", Rows.laid_loop_example_g00886_impl_turnsSpan), ("unicode/utf8.first", Rows.laid_unicode_utf8_first)] W) : Spans W := by
  have h' : laidMet Tryd.prog [("math/bits.deBruijn32tab", Rows.laid_math_bits_deBruijn32tab), ("math/bits.deBruijn64tab", Rows.laid_math_bits_deBruijn64tab), ("internal/strconv.uint64pow10", Rows.laid_internal_strconv_uint64pow10), ("unicode/utf8.acceptRanges", Rows.laid_unicode_utf8_acceptRanges), ("loop.example/g00886/impl.terrainsSpan", Rows.laid_loop_example_g00886_impl_terrainsSpan), ("loop.example/g00886/impl.costSpan", Rows.laid_loop_example_g00886_impl_costSpan), ("loop.example/g00886/impl.shiftSpan", Rows.laid_loop_example_g00886_impl_shiftSpan), ("loop.example/g00886/impl.heightSpan", Rows.laid_loop_example_g00886_impl_heightSpan), ("loop.example/g00886/impl.kindsSpan", Rows.laid_loop_example_g00886_impl_kindsSpan), ("loop.example/g00886/impl.strengthSpan", Rows.laid_loop_example_g00886_impl_strengthSpan), ("loop.example/g00886/impl.movesSpan", Rows.laid_loop_example_g00886_impl_movesSpan), ("loop.example/g00886/impl.stepsSpan", Rows.laid_loop_example_g00886_impl_stepsSpan), ("loop.example/g00886/impl.viewSpan", Rows.laid_loop_example_g00886_impl_viewSpan), ("loop.example/g00886/impl.stackSpan", Rows.laid_loop_example_g00886_impl_stackSpan), ("loop.example/g00886/impl.riverSpan", Rows.laid_loop_example_g00886_impl_riverSpan), ("loop.example/g00886/impl.roadSpan", Rows.laid_loop_example_g00886_impl_roadSpan), ("loop.example/g00886/impl.supplySpan", Rows.laid_loop_example_g00886_impl_supplySpan), ("loop.example/g00886/impl.turnsSpan", Rows.laid_loop_example_g00886_impl_turnsSpan), ("unicode/utf8.first", Rows.laid_unicode_utf8_first)] W := h
  obtain ⟨ps, hl, _⟩ := h'
  exact ⟨span_of terrainsG terrainsTy (laid_one hl (.tail _ (.tail _ (.tail _ (.tail _ (.head _)))))), span_of costG costTy (laid_one hl (.tail _ (.tail _ (.tail _ (.tail _ (.tail _ (.head _))))))), span_of shiftG shiftTy (laid_one hl (.tail _ (.tail _ (.tail _ (.tail _ (.tail _ (.tail _ (.head _)))))))), span_of heightG heightTy (laid_one hl (.tail _ (.tail _ (.tail _ (.tail _ (.tail _ (.tail _ (.tail _ (.head _))))))))), span_of kindsG kindsTy (laid_one hl (.tail _ (.tail _ (.tail _ (.tail _ (.tail _ (.tail _ (.tail _ (.tail _ (.head _)))))))))), span_of strengthG strengthTy (laid_one hl (.tail _ (.tail _ (.tail _ (.tail _ (.tail _ (.tail _ (.tail _ (.tail _ (.tail _ (.head _))))))))))), span_of movesG movesTy (laid_one hl (.tail _ (.tail _ (.tail _ (.tail _ (.tail _ (.tail _ (.tail _ (.tail _ (.tail _ (.tail _ (.head _)))))))))))), span_of stepsG stepsTy (laid_one hl (.tail _ (.tail _ (.tail _ (.tail _ (.tail _ (.tail _ (.tail _ (.tail _ (.tail _ (.tail _ (.tail _ (.head _))))))))))))), span_of viewG viewTy (laid_one hl (.tail _ (.tail _ (.tail _ (.tail _ (.tail _ (.tail _ (.tail _ (.tail _ (.tail _ (.tail _ (.tail _ (.tail _ (.head _)))))))))))))), span_of stackG stackTy (laid_one hl (.tail _ (.tail _ (.tail _ (.tail _ (.tail _ (.tail _ (.tail _ (.tail _ (.tail _ (.tail _ (.tail _ (.tail _ (.tail _ (.head _))))))))))))))), span_of riverG riverTy (laid_one hl (.tail _ (.tail _ (.tail _ (.tail _ (.tail _ (.tail _ (.tail _ (.tail _ (.tail _ (.tail _ (.tail _ (.tail _ (.tail _ (.tail _ (.head _)))))))))))))))), span_of roadG roadTy (laid_one hl (.tail _ (.tail _ (.tail _ (.tail _ (.tail _ (.tail _ (.tail _ (.tail _ (.tail _ (.tail _ (.tail _ (.tail _ (.tail _ (.tail _ (.tail _ (.head _))))))))))))))))), span_of supplyG supplyTy (laid_one hl (.tail _ (.tail _ (.tail _ (.tail _ (.tail _ (.tail _ (.tail _ (.tail _ (.tail _ (.tail _ (.tail _ (.tail _ (.tail _ (.tail _ (.tail _ (.tail _ (.head _)))))))))))))))))), span_of turnsG turnsTy (laid_one hl (.tail _ (.tail _ (.tail _ (.tail _ (.tail _ (.tail _ (.tail _ (.tail _ (.tail _ (.tail _ (.tail _ (.tail _ (.tail _ (.tail _ (.tail _ (.tail _ (.tail _ (.head _)))))))))))))))))))⟩

theorem kindLine_pow {W : World} (h : laidMetH Tryd.prog [("math/bits.deBruijn32tab", Rows.laid_math_bits_deBruijn32tab), ("math/bits.deBruijn64tab", Rows.laid_math_bits_deBruijn64tab), ("internal/strconv.uint64pow10", Rows.laid_internal_strconv_uint64pow10), ("unicode/utf8.acceptRanges", Rows.laid_unicode_utf8_acceptRanges), ("loop.example/g00886/impl.terrainsSpan", Rows.laid_loop_example_g00886_impl_terrainsSpan), ("loop.example/g00886/impl.costSpan", Rows.laid_loop_example_g00886_impl_costSpan), ("loop.example/g00886/impl.shiftSpan", Rows.laid_loop_example_g00886_impl_shiftSpan), ("loop.example/g00886/impl.heightSpan", Rows.laid_loop_example_g00886_impl_heightSpan), ("loop.example/g00886/impl.kindsSpan", Rows.laid_loop_example_g00886_impl_kindsSpan), ("loop.example/g00886/impl.strengthSpan", Rows.laid_loop_example_g00886_impl_strengthSpan), ("loop.example/g00886/impl.movesSpan", Rows.laid_loop_example_g00886_impl_movesSpan), ("loop.example/g00886/impl.stepsSpan", Rows.laid_loop_example_g00886_impl_stepsSpan), ("loop.example/g00886/impl.viewSpan", Rows.laid_loop_example_g00886_impl_viewSpan), ("loop.example/g00886/impl.stackSpan", Rows.laid_loop_example_g00886_impl_stackSpan), ("loop.example/g00886/impl.riverSpan", Rows.laid_loop_example_g00886_impl_riverSpan), ("loop.example/g00886/impl.roadSpan", Rows.laid_loop_example_g00886_impl_roadSpan), ("loop.example/g00886/impl.supplySpan", Rows.laid_loop_example_g00886_impl_supplySpan), ("loop.example/g00886/impl.turnsSpan", Rows.laid_loop_example_g00886_impl_turnsSpan), ("unicode/utf8.first", Rows.laid_unicode_utf8_first)] W) : PowAt W := by
  have h' : laidMet Tryd.prog [("math/bits.deBruijn32tab", Rows.laid_math_bits_deBruijn32tab), ("math/bits.deBruijn64tab", Rows.laid_math_bits_deBruijn64tab), ("internal/strconv.uint64pow10", Rows.laid_internal_strconv_uint64pow10), ("unicode/utf8.acceptRanges", Rows.laid_unicode_utf8_acceptRanges), ("loop.example/g00886/impl.terrainsSpan", Rows.laid_loop_example_g00886_impl_terrainsSpan), ("loop.example/g00886/impl.costSpan", Rows.laid_loop_example_g00886_impl_costSpan), ("loop.example/g00886/impl.shiftSpan", Rows.laid_loop_example_g00886_impl_shiftSpan), ("loop.example/g00886/impl.heightSpan", Rows.laid_loop_example_g00886_impl_heightSpan), ("loop.example/g00886/impl.kindsSpan", Rows.laid_loop_example_g00886_impl_kindsSpan), ("loop.example/g00886/impl.strengthSpan", Rows.laid_loop_example_g00886_impl_strengthSpan), ("loop.example/g00886/impl.movesSpan", Rows.laid_loop_example_g00886_impl_movesSpan), ("loop.example/g00886/impl.stepsSpan", Rows.laid_loop_example_g00886_impl_stepsSpan), ("loop.example/g00886/impl.viewSpan", Rows.laid_loop_example_g00886_impl_viewSpan), ("loop.example/g00886/impl.stackSpan", Rows.laid_loop_example_g00886_impl_stackSpan), ("loop.example/g00886/impl.riverSpan", Rows.laid_loop_example_g00886_impl_riverSpan), ("loop.example/g00886/impl.roadSpan", Rows.laid_loop_example_g00886_impl_roadSpan), ("loop.example/g00886/impl.supplySpan", Rows.laid_loop_example_g00886_impl_supplySpan), ("loop.example/g00886/impl.turnsSpan", Rows.laid_loop_example_g00886_impl_turnsSpan), ("unicode/utf8.first", Rows.laid_unicode_utf8_first)] W := h
  obtain ⟨ps, hl, _⟩ := h'
  exact pow_of (laid_one hl (.tail _ (.tail _ (.head _))))

theorem terrainLine_sp {W : World} (h : laidMetH Tryd.prog [("math/bits.deBruijn32tab", Rows.laid_math_bits_deBruijn32tab), ("math/bits.deBruijn64tab", Rows.laid_math_bits_deBruijn64tab), ("internal/strconv.uint64pow10", Rows.laid_internal_strconv_uint64pow10), ("unicode/utf8.acceptRanges", Rows.laid_unicode_utf8_acceptRanges), ("loop.example/g00886/impl.terrainsSpan", Rows.laid_loop_example_g00886_impl_terrainsSpan), ("loop.example/g00886/impl.costSpan", Rows.laid_loop_example_g00886_impl_costSpan), ("loop.example/g00886/impl.shiftSpan", Rows.laid_loop_example_g00886_impl_shiftSpan), ("loop.example/g00886/impl.heightSpan", Rows.laid_loop_example_g00886_impl_heightSpan), ("loop.example/g00886/impl.kindsSpan", Rows.laid_loop_example_g00886_impl_kindsSpan), ("loop.example/g00886/impl.strengthSpan", Rows.laid_loop_example_g00886_impl_strengthSpan), ("loop.example/g00886/impl.movesSpan", Rows.laid_loop_example_g00886_impl_movesSpan), ("loop.example/g00886/impl.stepsSpan", Rows.laid_loop_example_g00886_impl_stepsSpan), ("loop.example/g00886/impl.viewSpan", Rows.laid_loop_example_g00886_impl_viewSpan), ("loop.example/g00886/impl.stackSpan", Rows.laid_loop_example_g00886_impl_stackSpan), ("loop.example/g00886/impl.riverSpan", Rows.laid_loop_example_g00886_impl_riverSpan), ("loop.example/g00886/impl.roadSpan", Rows.laid_loop_example_g00886_impl_roadSpan), ("loop.example/g00886/impl.supplySpan", Rows.laid_loop_example_g00886_impl_supplySpan), ("loop.example/g00886/impl.turnsSpan", Rows.laid_loop_example_g00886_impl_turnsSpan), ("unicode/utf8.first", Rows.laid_unicode_utf8_first)] W) : Spans W := by
  have h' : laidMet Tryd.prog [("math/bits.deBruijn32tab", Rows.laid_math_bits_deBruijn32tab), ("math/bits.deBruijn64tab", Rows.laid_math_bits_deBruijn64tab), ("internal/strconv.uint64pow10", Rows.laid_internal_strconv_uint64pow10), ("unicode/utf8.acceptRanges", Rows.laid_unicode_utf8_acceptRanges), ("loop.example/g00886/impl.terrainsSpan", Rows.laid_loop_example_g00886_impl_terrainsSpan), ("loop.example/g00886/impl.costSpan", Rows.laid_loop_example_g00886_impl_costSpan), ("loop.example/g00886/impl.shiftSpan", Rows.laid_loop_example_g00886_impl_shiftSpan), ("loop.example/g00886/impl.heightSpan", Rows.laid_loop_example_g00886_impl_heightSpan), ("loop.example/g00886/impl.kindsSpan", Rows.laid_loop_example_g00886_impl_kindsSpan), ("loop.example/g00886/impl.strengthSpan", Rows.laid_loop_example_g00886_impl_strengthSpan), ("loop.example/g00886/impl.movesSpan", Rows.laid_loop_example_g00886_impl_movesSpan), ("loop.example/g00886/impl.stepsSpan", Rows.laid_loop_example_g00886_impl_stepsSpan), ("loop.example/g00886/impl.viewSpan", Rows.laid_loop_example_g00886_impl_viewSpan), ("loop.example/g00886/impl.stackSpan", Rows.laid_loop_example_g00886_impl_stackSpan), ("loop.example/g00886/impl.riverSpan", Rows.laid_loop_example_g00886_impl_riverSpan), ("loop.example/g00886/impl.roadSpan", Rows.laid_loop_example_g00886_impl_roadSpan), ("loop.example/g00886/impl.supplySpan", Rows.laid_loop_example_g00886_impl_supplySpan), ("loop.example/g00886/impl.turnsSpan", Rows.laid_loop_example_g00886_impl_turnsSpan), ("unicode/utf8.first", Rows.laid_unicode_utf8_first)] W := h
  obtain ⟨ps, hl, _⟩ := h'
  exact ⟨span_of terrainsG terrainsTy (laid_one hl (.tail _ (.tail _ (.tail _ (.tail _ (.head _)))))), span_of costG costTy (laid_one hl (.tail _ (.tail _ (.tail _ (.tail _ (.tail _ (.head _))))))), span_of shiftG shiftTy (laid_one hl (.tail _ (.tail _ (.tail _ (.tail _ (.tail _ (.tail _ (.head _)))))))), span_of heightG heightTy (laid_one hl (.tail _ (.tail _ (.tail _ (.tail _ (.tail _ (.tail _ (.tail _ (.head _))))))))), span_of kindsG kindsTy (laid_one hl (.tail _ (.tail _ (.tail _ (.tail _ (.tail _ (.tail _ (.tail _ (.tail _ (.head _)))))))))), span_of strengthG strengthTy (laid_one hl (.tail _ (.tail _ (.tail _ (.tail _ (.tail _ (.tail _ (.tail _ (.tail _ (.tail _ (.head _))))))))))), span_of movesG movesTy (laid_one hl (.tail _ (.tail _ (.tail _ (.tail _ (.tail _ (.tail _ (.tail _ (.tail _ (.tail _ (.tail _ (.head _)))))))))))), span_of stepsG stepsTy (laid_one hl (.tail _ (.tail _ (.tail _ (.tail _ (.tail _ (.tail _ (.tail _ (.tail _ (.tail _ (.tail _ (.tail _ (.head _))))))))))))), span_of viewG viewTy (laid_one hl (.tail _ (.tail _ (.tail _ (.tail _ (.tail _ (.tail _ (.tail _ (.tail _ (.tail _ (.tail _ (.tail _ (.tail _ (.head _)))))))))))))), span_of stackG stackTy (laid_one hl (.tail _ (.tail _ (.tail _ (.tail _ (.tail _ (.tail _ (.tail _ (.tail _ (.tail _ (.tail _ (.tail _ (.tail _ (.tail _ (.head _))))))))))))))), span_of riverG riverTy (laid_one hl (.tail _ (.tail _ (.tail _ (.tail _ (.tail _ (.tail _ (.tail _ (.tail _ (.tail _ (.tail _ (.tail _ (.tail _ (.tail _ (.tail _ (.head _)))))))))))))))), span_of roadG roadTy (laid_one hl (.tail _ (.tail _ (.tail _ (.tail _ (.tail _ (.tail _ (.tail _ (.tail _ (.tail _ (.tail _ (.tail _ (.tail _ (.tail _ (.tail _ (.tail _ (.head _))))))))))))))))), span_of supplyG supplyTy (laid_one hl (.tail _ (.tail _ (.tail _ (.tail _ (.tail _ (.tail _ (.tail _ (.tail _ (.tail _ (.tail _ (.tail _ (.tail _ (.tail _ (.tail _ (.tail _ (.tail _ (.head _)))))))))))))))))), span_of turnsG turnsTy (laid_one hl (.tail _ (.tail _ (.tail _ (.tail _ (.tail _ (.tail _ (.tail _ (.tail _ (.tail _ (.tail _ (.tail _ (.tail _ (.tail _ (.tail _ (.tail _ (.tail _ (.tail _ (.head _)))))))))))))))))))⟩

theorem terrainLine_pow {W : World} (h : laidMetH Tryd.prog [("math/bits.deBruijn32tab", Rows.laid_math_bits_deBruijn32tab), ("math/bits.deBruijn64tab", Rows.laid_math_bits_deBruijn64tab), ("internal/strconv.uint64pow10", Rows.laid_internal_strconv_uint64pow10), ("unicode/utf8.acceptRanges", Rows.laid_unicode_utf8_acceptRanges), ("loop.example/g00886/impl.terrainsSpan", Rows.laid_loop_example_g00886_impl_terrainsSpan), ("loop.example/g00886/impl.costSpan", Rows.laid_loop_example_g00886_impl_costSpan), ("loop.example/g00886/impl.shiftSpan", Rows.laid_loop_example_g00886_impl_shiftSpan), ("loop.example/g00886/impl.heightSpan", Rows.laid_loop_example_g00886_impl_heightSpan), ("loop.example/g00886/impl.kindsSpan", Rows.laid_loop_example_g00886_impl_kindsSpan), ("loop.example/g00886/impl.strengthSpan", Rows.laid_loop_example_g00886_impl_strengthSpan), ("loop.example/g00886/impl.movesSpan", Rows.laid_loop_example_g00886_impl_movesSpan), ("loop.example/g00886/impl.stepsSpan", Rows.laid_loop_example_g00886_impl_stepsSpan), ("loop.example/g00886/impl.viewSpan", Rows.laid_loop_example_g00886_impl_viewSpan), ("loop.example/g00886/impl.stackSpan", Rows.laid_loop_example_g00886_impl_stackSpan), ("loop.example/g00886/impl.riverSpan", Rows.laid_loop_example_g00886_impl_riverSpan), ("loop.example/g00886/impl.roadSpan", Rows.laid_loop_example_g00886_impl_roadSpan), ("loop.example/g00886/impl.supplySpan", Rows.laid_loop_example_g00886_impl_supplySpan), ("loop.example/g00886/impl.turnsSpan", Rows.laid_loop_example_g00886_impl_turnsSpan), ("unicode/utf8.first", Rows.laid_unicode_utf8_first)] W) : PowAt W := by
  have h' : laidMet Tryd.prog [("math/bits.deBruijn32tab", Rows.laid_math_bits_deBruijn32tab), ("math/bits.deBruijn64tab", Rows.laid_math_bits_deBruijn64tab), ("internal/strconv.uint64pow10", Rows.laid_internal_strconv_uint64pow10), ("unicode/utf8.acceptRanges", Rows.laid_unicode_utf8_acceptRanges), ("loop.example/g00886/impl.terrainsSpan", Rows.laid_loop_example_g00886_impl_terrainsSpan), ("loop.example/g00886/impl.costSpan", Rows.laid_loop_example_g00886_impl_costSpan), ("loop.example/g00886/impl.shiftSpan", Rows.laid_loop_example_g00886_impl_shiftSpan), ("loop.example/g00886/impl.heightSpan", Rows.laid_loop_example_g00886_impl_heightSpan), ("loop.example/g00886/impl.kindsSpan", Rows.laid_loop_example_g00886_impl_kindsSpan), ("loop.example/g00886/impl.strengthSpan", Rows.laid_loop_example_g00886_impl_strengthSpan), ("loop.example/g00886/impl.movesSpan", Rows.laid_loop_example_g00886_impl_movesSpan), ("loop.example/g00886/impl.stepsSpan", Rows.laid_loop_example_g00886_impl_stepsSpan), ("loop.example/g00886/impl.viewSpan", Rows.laid_loop_example_g00886_impl_viewSpan), ("loop.example/g00886/impl.stackSpan", Rows.laid_loop_example_g00886_impl_stackSpan), ("loop.example/g00886/impl.riverSpan", Rows.laid_loop_example_g00886_impl_riverSpan), ("loop.example/g00886/impl.roadSpan", Rows.laid_loop_example_g00886_impl_roadSpan), ("loop.example/g00886/impl.supplySpan", Rows.laid_loop_example_g00886_impl_supplySpan), ("loop.example/g00886/impl.turnsSpan", Rows.laid_loop_example_g00886_impl_turnsSpan), ("unicode/utf8.first", Rows.laid_unicode_utf8_first)] W := h
  obtain ⟨ps, hl, _⟩ := h'
  exact pow_of (laid_one hl (.tail _ (.tail _ (.head _))))

theorem rulesText_sp {W : World} (h : laidMetH Tryd.prog [("math/bits.deBruijn32tab", Rows.laid_math_bits_deBruijn32tab), ("math/bits.deBruijn64tab", Rows.laid_math_bits_deBruijn64tab), ("internal/strconv.uint64pow10", Rows.laid_internal_strconv_uint64pow10), ("unicode/utf8.acceptRanges", Rows.laid_unicode_utf8_acceptRanges), ("loop.example/g00886/impl.terrainsSpan", Rows.laid_loop_example_g00886_impl_terrainsSpan), ("loop.example/g00886/impl.costSpan", Rows.laid_loop_example_g00886_impl_costSpan), ("loop.example/g00886/impl.shiftSpan", Rows.laid_loop_example_g00886_impl_shiftSpan), ("loop.example/g00886/impl.heightSpan", Rows.laid_loop_example_g00886_impl_heightSpan), ("loop.example/g00886/impl.kindsSpan", Rows.laid_loop_example_g00886_impl_kindsSpan), ("loop.example/g00886/impl.strengthSpan", Rows.laid_loop_example_g00886_impl_strengthSpan), ("loop.example/g00886/impl.movesSpan", Rows.laid_loop_example_g00886_impl_movesSpan), ("loop.example/g00886/impl.stepsSpan", Rows.laid_loop_example_g00886_impl_stepsSpan), ("loop.example/g00886/impl.viewSpan", Rows.laid_loop_example_g00886_impl_viewSpan), ("loop.example/g00886/impl.stackSpan", Rows.laid_loop_example_g00886_impl_stackSpan), ("loop.example/g00886/impl.riverSpan", Rows.laid_loop_example_g00886_impl_riverSpan), ("loop.example/g00886/impl.roadSpan", Rows.laid_loop_example_g00886_impl_roadSpan), ("loop.example/g00886/impl.supplySpan", Rows.laid_loop_example_g00886_impl_supplySpan), ("loop.example/g00886/impl.turnsSpan", Rows.laid_loop_example_g00886_impl_turnsSpan), ("loop.example/g00886/impl.limitNames", Rows.laid_loop_example_g00886_impl_limitNames), ("unicode/utf8.first", Rows.laid_unicode_utf8_first)] W) : Spans W := by
  have h' : laidMet Tryd.prog [("math/bits.deBruijn32tab", Rows.laid_math_bits_deBruijn32tab), ("math/bits.deBruijn64tab", Rows.laid_math_bits_deBruijn64tab), ("internal/strconv.uint64pow10", Rows.laid_internal_strconv_uint64pow10), ("unicode/utf8.acceptRanges", Rows.laid_unicode_utf8_acceptRanges), ("loop.example/g00886/impl.terrainsSpan", Rows.laid_loop_example_g00886_impl_terrainsSpan), ("loop.example/g00886/impl.costSpan", Rows.laid_loop_example_g00886_impl_costSpan), ("loop.example/g00886/impl.shiftSpan", Rows.laid_loop_example_g00886_impl_shiftSpan), ("loop.example/g00886/impl.heightSpan", Rows.laid_loop_example_g00886_impl_heightSpan), ("loop.example/g00886/impl.kindsSpan", Rows.laid_loop_example_g00886_impl_kindsSpan), ("loop.example/g00886/impl.strengthSpan", Rows.laid_loop_example_g00886_impl_strengthSpan), ("loop.example/g00886/impl.movesSpan", Rows.laid_loop_example_g00886_impl_movesSpan), ("loop.example/g00886/impl.stepsSpan", Rows.laid_loop_example_g00886_impl_stepsSpan), ("loop.example/g00886/impl.viewSpan", Rows.laid_loop_example_g00886_impl_viewSpan), ("loop.example/g00886/impl.stackSpan", Rows.laid_loop_example_g00886_impl_stackSpan), ("loop.example/g00886/impl.riverSpan", Rows.laid_loop_example_g00886_impl_riverSpan), ("loop.example/g00886/impl.roadSpan", Rows.laid_loop_example_g00886_impl_roadSpan), ("loop.example/g00886/impl.supplySpan", Rows.laid_loop_example_g00886_impl_supplySpan), ("loop.example/g00886/impl.turnsSpan", Rows.laid_loop_example_g00886_impl_turnsSpan), ("loop.example/g00886/impl.limitNames", Rows.laid_loop_example_g00886_impl_limitNames), ("unicode/utf8.first", Rows.laid_unicode_utf8_first)] W := h
  obtain ⟨ps, hl, _⟩ := h'
  exact ⟨span_of terrainsG terrainsTy (laid_one hl (.tail _ (.tail _ (.tail _ (.tail _ (.head _)))))), span_of costG costTy (laid_one hl (.tail _ (.tail _ (.tail _ (.tail _ (.tail _ (.head _))))))), span_of shiftG shiftTy (laid_one hl (.tail _ (.tail _ (.tail _ (.tail _ (.tail _ (.tail _ (.head _)))))))), span_of heightG heightTy (laid_one hl (.tail _ (.tail _ (.tail _ (.tail _ (.tail _ (.tail _ (.tail _ (.head _))))))))), span_of kindsG kindsTy (laid_one hl (.tail _ (.tail _ (.tail _ (.tail _ (.tail _ (.tail _ (.tail _ (.tail _ (.head _)))))))))), span_of strengthG strengthTy (laid_one hl (.tail _ (.tail _ (.tail _ (.tail _ (.tail _ (.tail _ (.tail _ (.tail _ (.tail _ (.head _))))))))))), span_of movesG movesTy (laid_one hl (.tail _ (.tail _ (.tail _ (.tail _ (.tail _ (.tail _ (.tail _ (.tail _ (.tail _ (.tail _ (.head _)))))))))))), span_of stepsG stepsTy (laid_one hl (.tail _ (.tail _ (.tail _ (.tail _ (.tail _ (.tail _ (.tail _ (.tail _ (.tail _ (.tail _ (.tail _ (.head _))))))))))))), span_of viewG viewTy (laid_one hl (.tail _ (.tail _ (.tail _ (.tail _ (.tail _ (.tail _ (.tail _ (.tail _ (.tail _ (.tail _ (.tail _ (.tail _ (.head _)))))))))))))), span_of stackG stackTy (laid_one hl (.tail _ (.tail _ (.tail _ (.tail _ (.tail _ (.tail _ (.tail _ (.tail _ (.tail _ (.tail _ (.tail _ (.tail _ (.tail _ (.head _))))))))))))))), span_of riverG riverTy (laid_one hl (.tail _ (.tail _ (.tail _ (.tail _ (.tail _ (.tail _ (.tail _ (.tail _ (.tail _ (.tail _ (.tail _ (.tail _ (.tail _ (.tail _ (.head _)))))))))))))))), span_of roadG roadTy (laid_one hl (.tail _ (.tail _ (.tail _ (.tail _ (.tail _ (.tail _ (.tail _ (.tail _ (.tail _ (.tail _ (.tail _ (.tail _ (.tail _ (.tail _ (.tail _ (.head _))))))))))))))))), span_of supplyG supplyTy (laid_one hl (.tail _ (.tail _ (.tail _ (.tail _ (.tail _ (.tail _ (.tail _ (.tail _ (.tail _ (.tail _ (.tail _ (.tail _ (.tail _ (.tail _ (.tail _ (.tail _ (.head _)))))))))))))))))), span_of turnsG turnsTy (laid_one hl (.tail _ (.tail _ (.tail _ (.tail _ (.tail _ (.tail _ (.tail _ (.tail _ (.tail _ (.tail _ (.tail _ (.tail _ (.tail _ (.tail _ (.tail _ (.tail _ (.tail _ (.head _)))))))))))))))))))⟩

theorem rulesText_pow {W : World} (h : laidMetH Tryd.prog [("math/bits.deBruijn32tab", Rows.laid_math_bits_deBruijn32tab), ("math/bits.deBruijn64tab", Rows.laid_math_bits_deBruijn64tab), ("internal/strconv.uint64pow10", Rows.laid_internal_strconv_uint64pow10), ("unicode/utf8.acceptRanges", Rows.laid_unicode_utf8_acceptRanges), ("loop.example/g00886/impl.terrainsSpan", Rows.laid_loop_example_g00886_impl_terrainsSpan), ("loop.example/g00886/impl.costSpan", Rows.laid_loop_example_g00886_impl_costSpan), ("loop.example/g00886/impl.shiftSpan", Rows.laid_loop_example_g00886_impl_shiftSpan), ("loop.example/g00886/impl.heightSpan", Rows.laid_loop_example_g00886_impl_heightSpan), ("loop.example/g00886/impl.kindsSpan", Rows.laid_loop_example_g00886_impl_kindsSpan), ("loop.example/g00886/impl.strengthSpan", Rows.laid_loop_example_g00886_impl_strengthSpan), ("loop.example/g00886/impl.movesSpan", Rows.laid_loop_example_g00886_impl_movesSpan), ("loop.example/g00886/impl.stepsSpan", Rows.laid_loop_example_g00886_impl_stepsSpan), ("loop.example/g00886/impl.viewSpan", Rows.laid_loop_example_g00886_impl_viewSpan), ("loop.example/g00886/impl.stackSpan", Rows.laid_loop_example_g00886_impl_stackSpan), ("loop.example/g00886/impl.riverSpan", Rows.laid_loop_example_g00886_impl_riverSpan), ("loop.example/g00886/impl.roadSpan", Rows.laid_loop_example_g00886_impl_roadSpan), ("loop.example/g00886/impl.supplySpan", Rows.laid_loop_example_g00886_impl_supplySpan), ("loop.example/g00886/impl.turnsSpan", Rows.laid_loop_example_g00886_impl_turnsSpan), ("loop.example/g00886/impl.limitNames", Rows.laid_loop_example_g00886_impl_limitNames), ("unicode/utf8.first", Rows.laid_unicode_utf8_first)] W) : PowAt W := by
  have h' : laidMet Tryd.prog [("math/bits.deBruijn32tab", Rows.laid_math_bits_deBruijn32tab), ("math/bits.deBruijn64tab", Rows.laid_math_bits_deBruijn64tab), ("internal/strconv.uint64pow10", Rows.laid_internal_strconv_uint64pow10), ("unicode/utf8.acceptRanges", Rows.laid_unicode_utf8_acceptRanges), ("loop.example/g00886/impl.terrainsSpan", Rows.laid_loop_example_g00886_impl_terrainsSpan), ("loop.example/g00886/impl.costSpan", Rows.laid_loop_example_g00886_impl_costSpan), ("loop.example/g00886/impl.shiftSpan", Rows.laid_loop_example_g00886_impl_shiftSpan), ("loop.example/g00886/impl.heightSpan", Rows.laid_loop_example_g00886_impl_heightSpan), ("loop.example/g00886/impl.kindsSpan", Rows.laid_loop_example_g00886_impl_kindsSpan), ("loop.example/g00886/impl.strengthSpan", Rows.laid_loop_example_g00886_impl_strengthSpan), ("loop.example/g00886/impl.movesSpan", Rows.laid_loop_example_g00886_impl_movesSpan), ("loop.example/g00886/impl.stepsSpan", Rows.laid_loop_example_g00886_impl_stepsSpan), ("loop.example/g00886/impl.viewSpan", Rows.laid_loop_example_g00886_impl_viewSpan), ("loop.example/g00886/impl.stackSpan", Rows.laid_loop_example_g00886_impl_stackSpan), ("loop.example/g00886/impl.riverSpan", Rows.laid_loop_example_g00886_impl_riverSpan), ("loop.example/g00886/impl.roadSpan", Rows.laid_loop_example_g00886_impl_roadSpan), ("loop.example/g00886/impl.supplySpan", Rows.laid_loop_example_g00886_impl_supplySpan), ("loop.example/g00886/impl.turnsSpan", Rows.laid_loop_example_g00886_impl_turnsSpan), ("loop.example/g00886/impl.limitNames", Rows.laid_loop_example_g00886_impl_limitNames), ("unicode/utf8.first", Rows.laid_unicode_utf8_first)] W := h
  obtain ⟨ps, hl, _⟩ := h'
  exact pow_of (laid_one hl (.tail _ (.tail _ (.head _))))

theorem mapText_pow {W : World} (h : laidMetH Tryd.prog [("math/bits.deBruijn32tab", Rows.laid_math_bits_deBruijn32tab), ("math/bits.deBruijn64tab", Rows.laid_math_bits_deBruijn64tab), ("internal/strconv.uint64pow10", Rows.laid_internal_strconv_uint64pow10), ("loop.example/g00886/impl.directionSteps", Rows.laid_loop_example_g00886_impl_directionSteps), ("loop.example/g00886/impl.edgeListNames", Rows.laid_loop_example_g00886_impl_edgeListNames)] W) : PowAt W := by
  have h' : laidMet Tryd.prog [("math/bits.deBruijn32tab", Rows.laid_math_bits_deBruijn32tab), ("math/bits.deBruijn64tab", Rows.laid_math_bits_deBruijn64tab), ("internal/strconv.uint64pow10", Rows.laid_internal_strconv_uint64pow10), ("loop.example/g00886/impl.directionSteps", Rows.laid_loop_example_g00886_impl_directionSteps), ("loop.example/g00886/impl.edgeListNames", Rows.laid_loop_example_g00886_impl_edgeListNames)] W := h
  obtain ⟨ps, hl, _⟩ := h'
  exact pow_of (laid_one hl (.tail _ (.tail _ (.head _))))

theorem mapText_tab {W : World} (h : laidMetH Tryd.prog [("math/bits.deBruijn32tab", Rows.laid_math_bits_deBruijn32tab), ("math/bits.deBruijn64tab", Rows.laid_math_bits_deBruijn64tab), ("internal/strconv.uint64pow10", Rows.laid_internal_strconv_uint64pow10), ("loop.example/g00886/impl.directionSteps", Rows.laid_loop_example_g00886_impl_directionSteps), ("loop.example/g00886/impl.edgeListNames", Rows.laid_loop_example_g00886_impl_edgeListNames)] W) : Tab W := by
  have h' : laidMet Tryd.prog [("math/bits.deBruijn32tab", Rows.laid_math_bits_deBruijn32tab), ("math/bits.deBruijn64tab", Rows.laid_math_bits_deBruijn64tab), ("internal/strconv.uint64pow10", Rows.laid_internal_strconv_uint64pow10), ("loop.example/g00886/impl.directionSteps", Rows.laid_loop_example_g00886_impl_directionSteps), ("loop.example/g00886/impl.edgeListNames", Rows.laid_loop_example_g00886_impl_edgeListNames)] W := h
  obtain ⟨ps, hl, _⟩ := h'
  exact tab_of_laid1 (laid_one hl (.tail _ (.tail _ (.tail _ (.head _)))))

noncomputable def laidWorldK (os : Os) : World :=
  (setVar (setVar (setVar (setVar (setVar (setVar (setVar (laidWorldS os) 27 #[(.int .u8 0), (.int .u8 1), (.int .u8 28), (.int .u8 2), (.int .u8 29), (.int .u8 14), (.int .u8 24), (.int .u8 3), (.int .u8 30), (.int .u8 22), (.int .u8 20), (.int .u8 15), (.int .u8 25), (.int .u8 17), (.int .u8 4), (.int .u8 8), (.int .u8 31), (.int .u8 27), (.int .u8 13), (.int .u8 23), (.int .u8 21), (.int .u8 19), (.int .u8 16), (.int .u8 7), (.int .u8 26), (.int .u8 12), (.int .u8 18), (.int .u8 6), (.int .u8 11), (.int .u8 5), (.int .u8 10), (.int .u8 9)]) 28 #[(.int .u8 0), (.int .u8 1), (.int .u8 56), (.int .u8 2), (.int .u8 57), (.int .u8 49), (.int .u8 28), (.int .u8 3), (.int .u8 61), (.int .u8 58), (.int .u8 42), (.int .u8 50), (.int .u8 38), (.int .u8 29), (.int .u8 17), (.int .u8 4), (.int .u8 62), (.int .u8 47), (.int .u8 59), (.int .u8 36), (.int .u8 45), (.int .u8 43), (.int .u8 51), (.int .u8 22), (.int .u8 53), (.int .u8 39), (.int .u8 33), (.int .u8 30), (.int .u8 24), (.int .u8 18), (.int .u8 12), (.int .u8 5), (.int .u8 63), (.int .u8 55), (.int .u8 48), (.int .u8 27), (.int .u8 60), (.int .u8 41), (.int .u8 37), (.int .u8 16), (.int .u8 46), (.int .u8 35), (.int .u8 44), (.int .u8 21), (.int .u8 52), (.int .u8 32), (.int .u8 23), (.int .u8 11), (.int .u8 54), (.int .u8 26), (.int .u8 40), (.int .u8 15), (.int .u8 34), (.int .u8 20), (.int .u8 31), (.int .u8 10), (.int .u8 25), (.int .u8 14), (.int .u8 19), (.int .u8 9), (.int .u8 13), (.int .u8 8), (.int .u8 7), (.int .u8 6)]) 23 #[(.int .u64 1), (.int .u64 10), (.int .u64 100), (.int .u64 1000), (.int .u64 10000), (.int .u64 100000), (.int .u64 1000000), (.int .u64 10000000), (.int .u64 100000000), (.int .u64 1000000000), (.int .u64 10000000000), (.int .u64 100000000000), (.int .u64 1000000000000), (.int .u64 10000000000000), (.int .u64 100000000000000), (.int .u64 1000000000000000), (.int .u64 10000000000000000), (.int .u64 100000000000000000), (.int .u64 1000000000000000000), (.int .u64 10000000000000000000)]) 26 #[(.int .u8 128), (.int .u8 191), (.int .u8 160), (.int .u8 191), (.int .u8 128), (.int .u8 159), (.int .u8 144), (.int .u8 191), (.int .u8 128), (.int .u8 143), (.int .u8 0), (.int .u8 0), (.int .u8 0), (.int .u8 0), (.int .u8 0), (.int .u8 0), (.int .u8 0), (.int .u8 0), (.int .u8 0), (.int .u8 0), (.int .u8 0), (.int .u8 0), (.int .u8 0), (.int .u8 0), (.int .u8 0), (.int .u8 0), (.int .u8 0), (.int .u8 0), (.int .u8 0), (.int .u8 0), (.int .u8 0), (.int .u8 0)]) 25 (datCells Go.Pinned.utf8First)) 0 #[(.string ⟨#[115, 116, 97, 99, 107]⟩), (.string ⟨#[114, 105, 118, 101, 114]⟩), (.string ⟨#[114, 111, 97, 100]⟩), (.string ⟨#[115, 117, 112, 112, 108, 121]⟩), (.string ⟨#[116, 117, 114, 110, 115]⟩)]) 1 #[(.string ⟨#[114, 105, 118, 101, 114, 115]⟩), (.string ⟨#[114, 111, 97, 100, 115]⟩)])
theorem lenv2 {α : Type} {l : List α} (h : l.length = 2) : ∃ x0 x1, l = [x0, x1] := by
  match l, h with
  | [x0, x1], _ => exact ⟨_, _, rfl⟩
theorem lenv3 {α : Type} {l : List α} (h : l.length = 3) : ∃ x0 x1 x2, l = [x0, x1, x2] := by
  match l, h with
  | [x0, x1, x2], _ => exact ⟨_, _, _, rfl⟩
theorem lenv14 {α : Type} {l : List α} (h : l.length = 14) : ∃ x0 x1 x2 x3 x4 x5 x6 x7 x8 x9 x10 x11 x12 x13, l = [x0, x1, x2, x3, x4, x5, x6, x7, x8, x9, x10, x11, x12, x13] := by
  match l, h with
  | [x0, x1, x2, x3, x4, x5, x6, x7, x8, x9, x10, x11, x12, x13], _ => exact ⟨_, _, _, _, _, _, _, _, _, _, _, _, _, _, rfl⟩
theorem lenv15 {α : Type} {l : List α} (h : l.length = 15) : ∃ x0 x1 x2 x3 x4 x5 x6 x7 x8 x9 x10 x11 x12 x13 x14, l = [x0, x1, x2, x3, x4, x5, x6, x7, x8, x9, x10, x11, x12, x13, x14] := by
  match l, h with
  | [x0, x1, x2, x3, x4, x5, x6, x7, x8, x9, x10, x11, x12, x13, x14], _ => exact ⟨_, _, _, _, _, _, _, _, _, _, _, _, _, _, _, rfl⟩
theorem lenv16 {α : Type} {l : List α} (h : l.length = 16) : ∃ x0 x1 x2 x3 x4 x5 x6 x7 x8 x9 x10 x11 x12 x13 x14 x15, l = [x0, x1, x2, x3, x4, x5, x6, x7, x8, x9, x10, x11, x12, x13, x14, x15] := by
  match l, h with
  | [x0, x1, x2, x3, x4, x5, x6, x7, x8, x9, x10, x11, x12, x13, x14, x15], _ => exact ⟨_, _, _, _, _, _, _, _, _, _, _, _, _, _, _, _, rfl⟩
theorem lenv17 {α : Type} {l : List α} (h : l.length = 17) : ∃ x0 x1 x2 x3 x4 x5 x6 x7 x8 x9 x10 x11 x12 x13 x14 x15 x16, l = [x0, x1, x2, x3, x4, x5, x6, x7, x8, x9, x10, x11, x12, x13, x14, x15, x16] := by
  match l, h with
  | [x0, x1, x2, x3, x4, x5, x6, x7, x8, x9, x10, x11, x12, x13, x14, x15, x16], _ => exact ⟨_, _, _, _, _, _, _, _, _, _, _, _, _, _, _, _, _, rfl⟩
theorem lenv18 {α : Type} {l : List α} (h : l.length = 18) : ∃ x0 x1 x2 x3 x4 x5 x6 x7 x8 x9 x10 x11 x12 x13 x14 x15 x16 x17, l = [x0, x1, x2, x3, x4, x5, x6, x7, x8, x9, x10, x11, x12, x13, x14, x15, x16, x17] := by
  match l, h with
  | [x0, x1, x2, x3, x4, x5, x6, x7, x8, x9, x10, x11, x12, x13, x14, x15, x16, x17], _ => exact ⟨_, _, _, _, _, _, _, _, _, _, _, _, _, _, _, _, _, _, rfl⟩

end Go.Proofs.YtpdcmpojjchobaaDoor

/-
  slices.Concat of two lists of integers: a list of the call's own that holds both. Nothing that was there is changed.
-/
namespace Go.Proofs.YtpdcmpojjchobaaDoor
open Go.RowKit

theorem infoIntC : (Tryd.prog.info? 3).map (fun i => (i.zero, i.size, i.bytes)) = some (some (.int .i64 0), 1, 8) := by kernel_rfl

set_option maxRecDepth 100000 in
set_option maxHeartbeats 4000000 in
theorem grow_nil (n : Nat) (w : World) (h0 : 0 < n) (hn : n ≤ 1000000) :
    Calls Tryd.prog 113 #[.slice none 0 0, .int .i64 (n : Int)] w fun e w' => ∃ v, e = .returned v ∧ w'.ownsRow w.heap.size 3 1 v 0 [] ∧ v ≠ .slice none 0 0 ∧ Kp w w' := by
  obtain ⟨j0, hj0, hz0, hs0, hb0⟩ := info_parts infoIntC
  have hr := Lib.run_append_nil_zeros (P := Tryd.prog) w 38 3 38 3 j0 (.int .i64 0) .i64 .i64 Tryd.underlying38 Tryd.underlying3 hj0 hz0 n h0 (by rw [hs0]; decide) (by omega) (by rw [hb0]; omega)
  have hcap := grownCap_ge w n 0 3
  have hcap2 := grownCap_le_maxLen w n 0 3 (by simp only [maxLen]; omega)
  obtain ⟨cp, hcp⟩ : ∃ cp, grownCap w n 0 3 = cp := ⟨_, rfl⟩
  rw [hcp] at hr hcap hcap2
  obtain ⟨cur, hcur⟩ : ∃ cur, cur = Builtin.zeroCells (Value.int .i64 0).cells n ++ Builtin.zeroCells (Value.int .i64 0).cells (cp - n) := ⟨_, rfl⟩
  have hsz : cur.size = cp := by
    rw [hcur, Array.size_append, size_zeroCells, size_zeroCells]
    have : (Value.int .i64 0).cells.size = 1 := rfl
    rw [this]
    omega
  rw [← hcur] at hr
  have HR := Lib.hid hr
  have h1 : (0 : Int) < (n : Int) := by omega
  have h2 : ¬ (n : Int) < 0 := by omega
  have hcap3 : cp ≤ 9223372036854775807 := by unfold maxLen at hcap2; omega
  clear hcur hr hcp
  go_enter Tryd.func113, Tryd.ntmps113
  go_wp2_with (at_builtin; refine Lib.wpList_append_run _ rfl _ _ _ _ rfl _ _ rfl rfl _ _ HR.out ?_)
  go_ret
  refine ⟨_, rfl, ⟨rfl, .inr ⟨w.heap.size, cp, cur, rfl, Nat.le_refl _, ?_, Nat.zero_le _, hcap2, by omega, rfl⟩⟩, by simp, (Kp.refl w).drew.alloc _⟩
  exact Array.getElem?_push_size

theorem flat_more {rs : List (List Int)} {q : Nat} {r : List Int} (h : rs[q]? = some r) : (rs.take (q + 1)).flatten = (rs.take q).flatten ++ r := by
  rw [List.take_add_one, h]
  simp
theorem flat_le (rs : List (List Int)) (q : Nat) : (rs.take q).flatten.length ≤ rs.flatten.length := by
  have e : rs.flatten = (rs.take q).flatten ++ (rs.drop q).flatten := by rw [← List.flatten_append, List.take_append_drop]
  rw [e, List.length_append]
  omega

set_option maxRecDepth 100000 in
set_option maxHeartbeats 4000000 in
theorem concat_any (B o n c : Nat) (vs : List Value) (rs : List (List Int)) (w : World) (hv : ∀ (j : Nat) u, vs[j]? = some u → w.cell? ⟨B, o + j, none⟩ = some u) (hn : vs.length = n) (hr : rs.length = n) (hI : ∀ (j : Nat) u r, vs[j]? = some u → rs[j]? = some r → RdI w u r) (hne : ∀ r ∈ rs, 0 < r.length) (hlen : rs.flatten.length ≤ 100000) (h0 : 0 < rs.flatten.length) (hn2 : n ≤ 100000) :
    Calls Tryd.prog 84 #[.slice (some ⟨B, o, none⟩) n c] w fun e w' => ∃ v, e = .returned v ∧ OwnI w' w.heap.size v rs.flatten ∧ Kp w w' := by
  obtain ⟨j0, hj0, hz0, hs0, hb0⟩ := info_parts infoIntC
  have HV := Lib.hid hv
  have HN := Lib.hid hn
  have HR := Lib.hid hr
  have HI := Lib.hid hI
  have HNE := Lib.hid hne
  have HFL := Lib.hid (flat_le rs)
  obtain ⟨T, hT⟩ : ∃ T, rs.flatten.length = T := ⟨_, rfl⟩
  have HT := Lib.hid hT
  rw [hT] at hlen h0
  clear hv hn hr hI hne hT
  go_enter Tryd.func84, Tryd.ntmps84
  go_wp2_with fail
  go_loop [3, 5, 11] (fun sz _ i => ∃ q k : Nat, q ≤ n ∧ i = .int .i64 q ∧ sz = .int .i64 k ∧ Hid ((rs.take q).flatten.length = k)) (fun _ _ i => n - (intOf i).toNat)
  case atStart => exact ⟨0, 0, by omega, rfl, rfl, Lib.hid (by simp)⟩
  case round =>
    obtain ⟨q, k, hq, rfl, rfl, HK⟩ := hrel
    have hk : k ≤ 100000 := by have h1 := HFL.out q; rw [HK.out, HT.out] at h1; omega
    by_cases hlt : q < n
    · have hlt' : (q : Int) < n := by omega
      obtain ⟨r, hr⟩ : ∃ r, rs[q]? = some r := ⟨rs[q]'(by have := HR.out; omega), List.getElem?_eq_getElem _⟩
      obtain ⟨u, hu⟩ : ∃ u, vs[q]? = some u := ⟨vs[q]'(by have := HN.out; omega), List.getElem?_eq_getElem _⟩
      have a0 := HV.out q u hu
      obtain ⟨A, cr, rfl, _⟩ := HI.out q u r hu hr
      have HM : Hid ((rs.take (q + 1)).flatten.length = k + r.length) := Lib.hid (by rw [flat_more hr, List.length_append, HK.out])
      have hk2 : k + r.length ≤ 100000 := by have h1 := HFL.out (q + 1); rw [HM.out, HT.out] at h1; omega
      have hneg : ¬ (k : Int) + (r.length : Int) < 0 := by omega
      clear hr hu HK
      generalize r.length = rl at *
      go_wp2_with fail
      go_round
      case rel => exact ⟨q + 1, k + rl, by omega, by go_num, by go_num, HM⟩
      case measure => simp [intOf]; omega
    · obtain rfl : q = n := by omega
      obtain rfl : k = T := by
        have h1 := HK.out
        rw [List.take_of_length_le (by rw [HR.out]; omega)] at h1
        rw [← HT.out, ← h1]
      have CG := Lib.hid (fun w => grow_nil k w h0 (by omega))
      clear HK
      go_wp2_with fail
      refine (CG.out _).mono ?_
      rintro e1 w1 ⟨v1, rfl, o1, _, k1⟩
      have O1 : Hid (w1.ownsRow w.heap.size 3 1 v1 (rs.take 0).flatten.length (cellsI (rs.take 0).flatten)) := Lib.hid (by simpa [cellsI] using o1)
      clear o1
      go_wp2_with fail
      go_loopw [6, 8, 27] (fun v _ i wr => ∃ p : Nat, p ≤ q ∧ i = .int .i64 p ∧ Hid (wr.ownsRow w.heap.size 3 1 v (rs.take p).flatten.length (cellsI (rs.take p).flatten)) ∧ Kp w wr) (fun _ _ i _ => q - (intOf i).toNat)
      case atStart => exact ⟨0, by omega, rfl, O1, k1⟩
      case round =>
        clear O1 k1
        obtain ⟨p, hp, rfl, HO, kr⟩ := hrel
        have hz := kr.size
        by_cases hlp : p < q
        · have hlp' : (p : Int) < q := by omega
          obtain ⟨r, hr⟩ : ∃ r, rs[p]? = some r := ⟨rs[p]'(by have := HR.out; omega), List.getElem?_eq_getElem _⟩
          obtain ⟨u, hu⟩ : ∃ u, vs[p]? = some u := ⟨vs[p]'(by have := HN.out; omega), List.getElem?_eq_getElem _⟩
          have a0 := kr.cell (HV.out p u hu)
          obtain ⟨A, cr, rfl, hA⟩ := HI.out p u r hu hr
          obtain ⟨g, off, rfl, hc⟩ := hA (HNE.out r (List.mem_of_getElem? hr))
          have HNW : Hid (∀ (j : Nat) u, (cellsI r)[j]? = some u → wr.cell? ((⟨g, off, none⟩ : Addr).add j) = some u) := Lib.hid (fun j u hj => by
            simp only [cellsI, List.getElem?_map, Option.map_eq_some_iff] at hj
            obtain ⟨x, hx, rfl⟩ := hj
            have e : (⟨g, off, none⟩ : Addr).add j = ⟨g, off + j, none⟩ := Addr.add_lit ..
            rw [e]
            exact kr.cell (hc j x hx))
          have HM := Lib.hid (flat_more hr)
          have HB1 : Hid ((rs.take p).flatten.length + r.length ≤ 100000) := Lib.hid (by have h1 := HFL.out (p + 1); rw [HM.out, List.length_append, HT.out] at h1; omega)
          clear hr hu hc hA
          go_wp2_with (at_builtin; refine wpList_append_own_at _ rfl (.tmp 31) (.tmp 32) 38 rfl w.heap.size 3 j0 (.int .i64 0) 1 8 Tryd.underlying38 hj0 hz0 hs0 hb0 rfl (by decide) _ _ _ rfl HO.out ⟨g, off, none⟩ r.length cr (cellsI r) rfl (by simp [cellsI]) HNW.out (by intro u hu; obtain ⟨x, _, rfl⟩ := List.mem_map.1 hu; rfl) (by have := HB1.out; simp only [maxLen]; omega) (by have := HB1.out; omega) hz ?_; intro v1 w3 hown2 hgrow2 hnil2 hat2; clear hnil2 hat2; have O3 : Hid (w3.ownsRow w.heap.size 3 1 v1 (rs.take (p + 1)).flatten.length (cellsI (rs.take (p + 1)).flatten)) := Lib.hid (by rw [HM.out, List.length_append]; simpa [cellsI] using hown2); have K3 : Kp w w3 := kr.grown hgrow2 (fun k e => (World.ownsRow.lt HO.out k e).1); clear hown2 hgrow2)
          go_roundw
          case rel => exact ⟨p + 1, by omega, by go_num, O3, K3⟩
          case measure => simp [intOf]; omega
        · obtain rfl : p = q := by omega
          have HE : Hid (OwnI wr w.heap.size _ rs.flatten) := Lib.hid (by
            have h1 := HO.out
            rw [List.take_of_length_le (by rw [HR.out]; omega)] at h1
            exact h1)
          clear HO
          go_wp2_with fail
          go_ret
          exact ⟨_, rfl, HE.out, kr⟩

theorem row_shape1 {w : World} {base : Nat} {v : Value} {l : List Int} (h : OwnI w base v l) (h0 : 0 < l.length) :
    ∃ g cap, v = .slice (some ⟨g, 0, none⟩) l.length cap ∧ l.length ≤ cap ∧ cap ≤ 9223372036854775807 ∧ base ≤ g := by
  rcases h.2 with ⟨_, h1⟩ | ⟨g, cap, cur, e1, h2, _, h3, h4, _⟩
  · omega
  · exact ⟨g, cap, e1, h3, by unfold maxLen at h4; omega, h2⟩

end Go.Proofs.YtpdcmpojjchobaaDoor

/-
  TerrainLine of the program: the line of a terrain of valid rules, or nothing. The named variables hold what the program's text lays.
-/
namespace Go.Proofs.YtpdcmpojjchobaaDoor
open Go.RowKit

theorem itoa_any (x : Int) (w : World) (h0 : -1000000 < x) (h1 : x < 1000000) (hp : PowAt w) :
    Calls Tryd.prog 89 #[.int .i64 x] w fun e w' => e = .returned (.string (txt (Lib.itoa x))) ∧ Kp w w' := by
  refine (Tryd.strconv_Itoa x (by omega) (by omega) w hp).mono fun e w' ⟨he, k, os, hw⟩ => ⟨he, ?_⟩
  subst hw
  refine ⟨rfl, rfl, rfl, ?_, fun j hj => ?_⟩
  · show w.heap.size ≤ (w.heap ++ os).size
    simp
  · show (w.heap ++ os)[j]? = w.heap[j]?
    exact Array.getElem?_append_left hj

theorem terForm (n : Nat) : Lib.join (terWs n) [32] = [116, 101, 114, 114, 97, 105, 110, 32, 78, 65, 77, 69, 32, 115, 104, 105, 102, 116, 32, 78, 32, 104, 101, 105, 103, 104, 116, 32, 78, 32, 99, 111, 115, 116] ++ Lib.repeatL [32, 78] n := by
  have e : ∀ n, Lib.joinTail [32] (List.replicate n [78]) = Lib.repeatL [32, 78] n := by
    intro n
    induction n with
    | zero => rfl
    | succ n ih =>
      rw [List.replicate_succ, Lib.repeatL, ← ih]
      simp [Lib.joinTail]
  rw [← e]
  simp [terWs, Lib.join_cons, Lib.joinTail]

set_option maxRecDepth 100000 in
theorem terrainFormOf_any (n : Nat) (w : World) (hn : n ≤ 1000) :
    Calls Tryd.prog 85 #[.int .i64 (n : Int)] w fun e w' => e = .returned (.string (txt (Lib.join (terWs n) [32]))) ∧ Kp w w' := by
  have CR := Lib.hid (Tryd.strings_Repeat (ByteArray.mk #[32, 78]) n w (by omega) (by show 2 * n ≤ _; omega))
  obtain ⟨s, hs⟩ : ∃ s, s = ByteArray.mk (Lib.repeatL (ByteArray.mk #[32, 78]).data.toList n).toArray := ⟨_, rfl⟩
  rw [← hs] at CR
  have hz : s.size = n * 2 := by
    rw [hs]
    show (Lib.repeatL _ n).toArray.size = _
    rw [List.size_toArray, Lib.repeatL_length]
    rfl
  have HT : Hid (ByteArray.mk #[116, 101, 114, 114, 97, 105, 110, 32, 78, 65, 77, 69, 32, 115, 104, 105, 102, 116, 32, 78, 32, 104, 101, 105, 103, 104, 116, 32, 78, 32, 99, 111, 115, 116] ++ s = txt (Lib.join (terWs n) [32])) := Lib.hid (by
    rw [terForm, hs, show ByteArray.mk #[116, 101, 114, 114, 97, 105, 110, 32, 78, 65, 77, 69, 32, 115, 104, 105, 102, 116, 32, 78, 32, 104, 101, 105, 103, 104, 116, 32, 78, 32, 99, 111, 115, 116] = txt [116, 101, 114, 114, 97, 105, 110, 32, 78, 65, 77, 69, 32, 115, 104, 105, 102, 116, 32, 78, 32, 104, 101, 105, 103, 104, 116, 32, 78, 32, 99, 111, 115, 116] from rfl]
    exact txt_app _ _)
  have y1 : ¬ 9223372036854775807 < 34 + s.size := by omega
  clear hs
  go_enter Tryd.func85, Tryd.ntmps85
  go_wp2_with fail
  refine CR.out.mono ?_
  rintro e1 w1 ⟨rfl, k1⟩
  go_wp2_with fail
  go_ret
  exact ⟨ret_str HT.out, k1⟩

set_option maxRecDepth 100000 in
set_option maxHeartbeats 8000000 in
theorem terrainLine_any (nm : ByteArray) (A : Option Addr) (n cc : Nat) (l : List Int) (s h : Int) (z : Bool) (w : World) (hr : RdI w (.slice A n cc) l) (hm : TerSm ⟨nm, l, s, h, z⟩ n) (h0 : 0 < n) (hn : n ≤ 100) (hp : PowAt w) :
    Calls Tryd.prog 40 #[tv nm A n cc s h z] w fun e w' => e = .returned (.string (txt (terTx ⟨nm, l, s, h, z⟩))) ∧ Kp w w' := by
  obtain ⟨m1, m2, m3, m4, m5⟩ := hm
  simp only at m1 m2 m3 m4 m5
  have hlen := terTx_len ⟨nm, l, s, h, z⟩ m1 m4.1 m4.2 m5.2 (fun x hx => (m3 x hx).2)
  have htx := ter_tx ⟨nm, l, s, h, z⟩ m5.1 (fun x hx => (m3 x hx).1)
  simp only at hlen htx
  rw [m2] at hlen htx
  have hjl : (Lib.join (fillW (terWs n) nm.data.toList (s :: h :: l)) [32]).length ≤ 364 := by
    rw [htx, List.length_append] at hlen
    omega
  have KB : Kp w (((w.alloc (.cells #[.string nm, .slice A n cc, .int .i64 s, .int .i64 h, .bool z] 70)).alloc (.cells #[.int .i64 s, .int .i64 h] 3)).alloc (.cells #[.slice (some ⟨w.heap.size + 1, 0, none⟩) 2 2, .slice A n cc] 38)) := (((Kp.refl w).alloc _).alloc _).alloc _
  have HRL := Lib.hid (hr.keep KB)
  have hf2 : ([[s, h], l] : List (List Int)).flatten = s :: h :: l := by simp
  have CC := Lib.hid (concat_any (w.heap.size + 2) 0 2 2 [.slice (some ⟨w.heap.size + 1, 0, none⟩) 2 2, .slice A n cc] [[s, h], l] (((w.alloc (.cells #[.string nm, .slice A n cc, .int .i64 s, .int .i64 h, .bool z] 70)).alloc (.cells #[.int .i64 s, .int .i64 h] 3)).alloc (.cells #[.slice (some ⟨w.heap.size + 1, 0, none⟩) 2 2, .slice A n cc] 38))
    (fun j u hj => by
      match j, hj with
      | 0, hj => simp only [List.getElem?_cons_zero, Option.some.injEq] at hj; subst hj; simp [go_sem]
      | 1, hj => simp only [List.getElem?_cons_zero, List.getElem?_cons_succ, Option.some.injEq] at hj; subst hj; simp [go_sem]
      | j + 2, hj => simp at hj) rfl rfl
    (fun j u r hu hr2 => by
      match j, hu, hr2 with
      | 0, hu, hr2 =>
        simp only [List.getElem?_cons_zero, Option.some.injEq] at hu hr2
        subst hu hr2
        refine ⟨_, _, rfl, fun _ => ⟨_, _, rfl, fun i x hx => ?_⟩⟩
        match i, hx with
        | 0, hx => simp only [List.getElem?_cons_zero, Option.some.injEq] at hx; subst hx; simp [go_sem]
        | 1, hx => simp only [List.getElem?_cons_zero, List.getElem?_cons_succ, Option.some.injEq] at hx; subst hx; simp [go_sem]
        | i + 2, hx => simp at hx
      | 1, hu, hr2 =>
        simp only [List.getElem?_cons_zero, List.getElem?_cons_succ, Option.some.injEq] at hu hr2
        subst hu hr2
        exact HRL.out
      | j + 2, hu, _ => simp at hu)
    (fun r hr2 => by
      simp only [List.mem_cons, List.not_mem_nil, or_false] at hr2
      rcases hr2 with rfl | rfl
      · simp
      · omega) (by rw [hf2]; simp; omega) (by rw [hf2]; simp) (by omega))
  rw [hf2] at CC
  have s0 : (((w.alloc (.cells #[.string nm, .slice A n cc, .int .i64 s, .int .i64 h, .bool z] 70)).alloc (.cells #[.int .i64 s, .int .i64 h] 3)).alloc (.cells #[.slice (some ⟨w.heap.size + 1, 0, none⟩) 2 2, .slice A n cc] 38)).cell? ⟨w.heap.size, 0, none⟩ = some (.string nm) ∧ (((w.alloc (.cells #[.string nm, .slice A n cc, .int .i64 s, .int .i64 h, .bool z] 70)).alloc (.cells #[.int .i64 s, .int .i64 h] 3)).alloc (.cells #[.slice (some ⟨w.heap.size + 1, 0, none⟩) 2 2, .slice A n cc] 38)).cell? ⟨w.heap.size, 1, none⟩ = some (.slice A n cc) ∧ (((w.alloc (.cells #[.string nm, .slice A n cc, .int .i64 s, .int .i64 h, .bool z] 70)).alloc (.cells #[.int .i64 s, .int .i64 h] 3)).alloc (.cells #[.slice (some ⟨w.heap.size + 1, 0, none⟩) 2 2, .slice A n cc] 38)).cell? ⟨w.heap.size, 4, none⟩ = some (.bool z) := ⟨by simp [go_sem], by simp [go_sem], by simp [go_sem]⟩
  obtain ⟨J, hJ⟩ : ∃ J, J = Lib.join (fillW (terWs n) nm.data.toList (s :: h :: l)) [32] := ⟨_, rfl⟩
  have HJ := Lib.hid hJ
  have HT := Lib.hid htx
  rw [← hJ] at HT hjl
  have hz : (txt J).size ≤ 364 := by rw [txt_size]; exact hjl
  have y1 : ¬ 9223372036854775807 < (txt J).size + 7 := by omega
  have CF := Lib.hid (fun w => terrainFormOf_any n w (by omega))
  have HP := Lib.hid (hp.keep KB)
  have HLN := Lib.hid m2
  have HC : Hid (∀ x ∈ s :: h :: l, -1000000 < x ∧ x < 1000000) := Lib.hid (fun x hx => by
    simp only [List.mem_cons] at hx
    rcases hx with rfl | rfl | hx
    · omega
    · omega
    · have := m3 x hx; omega)
  have HJL := Lib.hid hjl
  clear hlen htx hJ hjl m1 m2 m3 m4 m5 hr hp hf2
  go_enter Tryd.func40, Tryd.ntmps40
  go_wp2_with fail
  refine CC.out.mono ?_
  rintro e0 wc ⟨v, rfl, oc, kc⟩
  have KC := KB.trans kc
  have hrow := row_shape1 oc (by simp)
  obtain ⟨g, cp, hv, hcp, hcp2, hg⟩ := hrow
  have hll : (s :: h :: l).length = n + 2 := by have := HLN.out; simp; omega
  rw [hll] at hv hcp
  have oc2 := oc
  unfold OwnI at oc2
  rw [hll] at oc2
  have CL : Hid (∀ W, Kp wc W → Calls Tryd.prog 80 #[.string (txt (Lib.join (terWs n) [32])), .string nm, .slice (some ⟨g, 0, none⟩) (n + 2) cp] W fun e w' => e = .returned (.string (txt J)) ∧ Kp W w') := Lib.hid (fun W kW => by
    rw [HJ.out]
    refine filledForm_any (txt (Lib.join (terWs n) [32])) nm [116, 101, 114, 114, 97, 105, 110] ([[78, 65, 77, 69], [115, 104, 105, 102, 116], [78], [104, 101, 105, 103, 104, 116], [78], [99, 111, 115, 116]] ++ List.replicate n [78]) (s :: h :: l) g 0 (n + 2) cp W ?_ ?_ ?_ ?_ hll hcp hcp2 ?_ ?_ ?_ ?_
    · rw [txt_size, terForm, List.length_append, Lib.repeatL_length]
      simp only [List.length_cons, List.length_nil]
      omega
    · simp [txt, terWs]
    · intro y hy
      simp only [List.cons_append, List.nil_append, List.mem_cons, List.mem_replicate] at hy
      rcases hy with rfl | rfl | rfl | rfl | rfl | rfl | rfl | ⟨_, rfl⟩ <;> decide
    · simp only [List.length_append, List.length_replicate, List.length_cons, List.length_nil]
      omega
    · have : usedN ([116, 101, 114, 114, 97, 105, 110] :: ([[78, 65, 77, 69], [115, 104, 105, 102, 116], [78], [104, 101, 105, 103, 104, 116], [78], [99, 111, 115, 116]] ++ List.replicate n [78])) = n + 2 := by
        simp [usedN]
      omega
    · intro i x hx
      have hx2 := lt_of_at hx
      have hcc : (cellsI (s :: h :: l))[i]? = some (.int .i64 x) := by
        show (List.map _ (s :: h :: l))[i]? = _
        rw [List.getElem?_map, hx]
        rfl
      have oc3 := oc2
      rw [hv] at oc3
      have := kW.cell ((World.ownsRow.cellAt oc3 i (by rw [hll] at hx2; omega)).trans hcc)
      simpa using this
    · intro x hx w' k'
      have := HC.out x hx
      exact itoa_any x w' this.1 this.2 (((HP.out.keep kc).keep kW).keep k')
    · have := HJL.out
      rw [HJ.out] at this
      exact Nat.le_trans this (by decide))
  subst hv
  have s1 : wc.drew.cell? ⟨w.heap.size, 0, none⟩ = some (.string nm) ∧ wc.drew.cell? ⟨w.heap.size, 1, none⟩ = some (.slice A n cc) ∧ wc.drew.cell? ⟨w.heap.size, 4, none⟩ = some (.bool z) ∧ Kp wc wc.drew := ⟨kc.cell s0.1, kc.cell s0.2.1, kc.cell s0.2.2, (Kp.refl wc).drew⟩
  clear s0 CC HC HJ HJL HP HRL oc oc2 hll
  go_wp2_with fail
  refine wp_region_held_drew (S := (fun w' => w'.cell? ⟨w.heap.size, 0, none⟩ = some (.string nm) ∧ w'.cell? ⟨w.heap.size, 1, none⟩ = some (.slice A n cc) ∧ w'.cell? ⟨w.heap.size, 4, none⟩ = some (.bool z) ∧ Kp wc w')) (by kernel_rfl) ?_ (fun hHeld => ?_)
  · exact s1
  refine wpAnyH_take (i := 0) (oi := ⟨some 14, _, _, _, _, _⟩) (v := ?_) rfl (by kernel_rfl) (by kernel_rfl) (by kernel_rfl) (fun _ _ _ h => h) (Or.inl ⟨by rfl, ?_⟩) (by assumption) ?_
  rotate_left
  · intro w hSw; (try dsimp only at hSw); go_simp; (all_goals with_reducible rfl)
  simp only [Act.put, List.setIfInBounds_toArray, List.set_cons_zero, List.set_cons_succ]
  refine wpAnyH_take (i := 1) (oi := ⟨some 15, _, _, _, _, _⟩) (v := ?_) rfl (by kernel_rfl) (by kernel_rfl) (by kernel_rfl) (fun _ _ _ h => h) (Or.inl ⟨by rfl, ?_⟩) (by assumption) ?_
  rotate_left
  · intro w hSw; (try dsimp only at hSw); go_simp; (all_goals with_reducible rfl)
  simp only [Act.put, List.setIfInBounds_toArray, List.set_cons_zero, List.set_cons_succ]
  refine wpAnyH_take (i := 2) (oi := ⟨some 16, _, _, _, _, _⟩) (v := ?_) rfl (by kernel_rfl) (by kernel_rfl) (by kernel_rfl) (fun _ _ _ h => h) (Or.inl ⟨by rfl, ?_⟩) (by assumption) ?_
  rotate_left
  · intro w hSw; (try dsimp only at hSw); go_simp; (all_goals with_reducible rfl)
  simp only [Act.put, List.setIfInBounds_toArray, List.set_cons_zero, List.set_cons_succ]
  refine wpAnyH_take (i := 4) (oi := ⟨some 18, _, _, _, _, _⟩) (v := ?_) rfl (by kernel_rfl) (by kernel_rfl) (by kernel_rfl) (fun _ _ _ h => h) (Or.inl ⟨by rfl, ?_⟩) (by assumption) ?_
  rotate_left
  · intro w hSw; (try dsimp only at hSw); go_simp; (all_goals with_reducible rfl)
  simp only [Act.put, List.setIfInBounds_toArray, List.set_cons_zero, List.set_cons_succ]
  refine wpAnyH_take (i := 5) (oi := ⟨some 19, _, _, _, _, _⟩) (v := ?_) rfl (by kernel_rfl) (by kernel_rfl) (by kernel_rfl) (fun _ _ _ h => h) (Or.inl ⟨by rfl, ?_⟩) (by assumption) ?_
  rotate_left
  · intro w hSw; (try dsimp only at hSw); go_simp; (all_goals with_reducible rfl)
  simp only [Act.put, List.setIfInBounds_toArray, List.set_cons_zero, List.set_cons_succ]
  refine wpAnyH_take (i := 6) (oi := ⟨some 20, _, _, _, _, _⟩) (v := ?_) rfl (by kernel_rfl) (by kernel_rfl) (by kernel_rfl) (fun _ _ _ h => h) (Or.inl ⟨by rfl, ?_⟩) (by assumption) ?_
  rotate_left
  · intro w hSw; (try dsimp only at hSw); go_simp; (all_goals with_reducible rfl)
  simp only [Act.put, List.setIfInBounds_toArray, List.set_cons_zero, List.set_cons_succ]
  refine wpAnyH_ready (rs := [3]) (by kernel_rfl) (by simp) ?_
  refine AllReadyH.cons (o := ⟨some 17, _, _, _, _, _⟩) rfl (fun K hK => ?_) AllReadyH.nil
  go_simp
  refine (CF.out _).mono ?_; rintro e1 w1 ⟨rfl, k1⟩; have s2 : w1.cell? ⟨w.heap.size, 0, none⟩ = some (.string nm) ∧ w1.cell? ⟨w.heap.size, 1, none⟩ = some (.slice A n cc) ∧ w1.cell? ⟨w.heap.size, 4, none⟩ = some (.bool z) ∧ Kp wc w1 := ⟨k1.cell s1.1, k1.cell s1.2.1, k1.cell s1.2.2.1, s1.2.2.2.trans k1⟩; clear k1
  go_wp2_with fail
  refine hK.out _ _ ?_ (fun hHeld => ?_)
  · (try dsimp only); (first | assumption | exact s3 | exact s2 | exact s1)
  clear hK K
  try simp only [Act.put, List.setIfInBounds_toArray, List.set_cons_zero, List.set_cons_succ]
  refine wpAnyH_ready (rs := [7]) (by kernel_rfl) (by simp) ?_
  refine AllReadyH.cons (o := ⟨some 21, _, _, _, _, _⟩) rfl (fun K hK => ?_) AllReadyH.nil
  go_simp
  refine (CL.out _ s2.2.2.2).mono ?_; rintro e2 w2 ⟨rfl, k2⟩; have s3 : w2.cell? ⟨w.heap.size, 0, none⟩ = some (.string nm) ∧ w2.cell? ⟨w.heap.size, 1, none⟩ = some (.slice A n cc) ∧ w2.cell? ⟨w.heap.size, 4, none⟩ = some (.bool z) ∧ Kp wc w2 := ⟨k2.cell s2.1, k2.cell s2.2.1, k2.cell s2.2.2.1, s2.2.2.2.trans k2⟩; clear k2
  go_wp2_with fail
  refine hK.out _ _ ?_ (fun hHeld => ?_)
  · (try dsimp only); (first | assumption | exact s3 | exact s2 | exact s1)
  clear hK K
  try simp only [Act.put, List.setIfInBounds_toArray, List.set_cons_zero, List.set_cons_succ]
  refine wpAnyH_take (i := 8) (oi := ⟨some 4, _, _, _, _, _⟩) (v := ?_) rfl (by kernel_rfl) (by kernel_rfl) (by kernel_rfl) (fun _ _ _ h => h) (Or.inl ⟨by rfl, ?_⟩) (by assumption) ?_
  rotate_left
  · intro w hSw; (try dsimp only at hSw); go_simp; (all_goals with_reducible rfl)
  simp only [Act.put, List.setIfInBounds_toArray, List.set_cons_zero, List.set_cons_succ]
  refine wpAnyH_done (by kernel_rfl) ?_ _
  obtain ⟨c0, c1, c4, K3⟩ := s3
  have K4 := KC.trans K3
  cases z
  · have HT2 : Hid (txt J = txt (terTx ⟨nm, l, s, h, false⟩)) := Lib.hid (by rw [HT.out]; simp)
    go_wp2_with fail
    go_ret
    exact ⟨ret_str HT2.out, K4⟩
  · have HT2 : Hid (txt J ++ ByteArray.mk #[32, 98, 108, 111, 99, 107, 115] = txt (terTx ⟨nm, l, s, h, true⟩)) := Lib.hid (by rw [HT.out, show ByteArray.mk #[32, 98, 108, 111, 99, 107, 115] = txt [32, 98, 108, 111, 99, 107, 115] from rfl, txt_app]; rfl)
    go_wp2_with fail
    go_ret
    exact ⟨ret_str HT2.out, K4⟩

end Go.Proofs.YtpdcmpojjchobaaDoor

/-
  TerrainLine of the program: the line of a terrain of valid rules, or nothing; its row's premise. The named variables hold what the program's text lays.
-/
namespace Go.Proofs.YtpdcmpojjchobaaDoor
open Go.RowKit

/-- The ranges of rules, and the table of powers of ten. -/
structure SpP (w : World) : Prop where
  sp : Spans w
  pow : PowAt w
theorem SpP.keep {w w' : World} (h : SpP w) (k : Kp w w') : SpP w' := ⟨h.sp.keep k, h.pow.keep k⟩

set_option maxRecDepth 100000 in
set_option maxHeartbeats 4000000 in
theorem implTerrainLine_any (At Ak : Option Addr) (nt nk ct ck : Nat) (l : List Ter) (m : List Knd) (a b c d e i : Int) (w : World) (hs : SpP w) (h : RulAt w At Ak nt nk l m) :
    Calls Tryd.prog 14 #[rv (.slice At nt ct) (.slice Ak nk ck) a b c d e, .int .i64 i] w fun e' w' => e' = .returned (.tuple #[.string (tlT (rulOk ⟨l, m, a, b, c, d, e⟩) l i), .bool (tlB (rulOk ⟨l, m, a, b, c, d, e⟩) l i)]) ∧ Kp w w' := by
  have KA : Kp w (w.alloc (.cells #[.slice At nt ct, .slice Ak nk ck, .int .i64 a, .int .i64 b, .int .i64 c, .int .i64 d, .int .i64 e] 32)) := (Kp.refl w).alloc _
  have s0 : (w.alloc (.cells #[.slice At nt ct, .slice Ak nk ck, .int .i64 a, .int .i64 b, .int .i64 c, .int .i64 d, .int .i64 e] 32)).cell? ⟨w.heap.size, 0, none⟩ = some (.slice At nt ct) ∧ (w.alloc (.cells #[.slice At nt ct, .slice Ak nk ck, .int .i64 a, .int .i64 b, .int .i64 c, .int .i64 d, .int .i64 e] 32)).cell? ⟨w.heap.size, 1, none⟩ = some (.slice Ak nk ck) ∧ (w.alloc (.cells #[.slice At nt ct, .slice Ak nk ck, .int .i64 a, .int .i64 b, .int .i64 c, .int .i64 d, .int .i64 e] 32)).cell? ⟨w.heap.size, 2, none⟩ = some (.int .i64 a) ∧ (w.alloc (.cells #[.slice At nt ct, .slice Ak nk ck, .int .i64 a, .int .i64 b, .int .i64 c, .int .i64 d, .int .i64 e] 32)).cell? ⟨w.heap.size, 3, none⟩ = some (.int .i64 b) ∧ (w.alloc (.cells #[.slice At nt ct, .slice Ak nk ck, .int .i64 a, .int .i64 b, .int .i64 c, .int .i64 d, .int .i64 e] 32)).cell? ⟨w.heap.size, 4, none⟩ = some (.int .i64 c) ∧ (w.alloc (.cells #[.slice At nt ct, .slice Ak nk ck, .int .i64 a, .int .i64 b, .int .i64 c, .int .i64 d, .int .i64 e] 32)).cell? ⟨w.heap.size, 5, none⟩ = some (.int .i64 d) ∧ (w.alloc (.cells #[.slice At nt ct, .slice Ak nk ck, .int .i64 a, .int .i64 b, .int .i64 c, .int .i64 d, .int .i64 e] 32)).cell? ⟨w.heap.size, 6, none⟩ = some (.int .i64 e) := ⟨by simp [go_sem], by simp [go_sem], by simp [go_sem], by simp [go_sem], by simp [go_sem], by simp [go_sem], by simp [go_sem]⟩
  have HL := Lib.hid (h.keep KA)
  have HS := Lib.hid (hs.keep KA)
  have CG := Lib.hid (fun w hs h => isRules_any At Ak nt nk ct ck l m a b c d e w hs h)
  obtain ⟨R, hR⟩ : ∃ R, R = rulOk ⟨l, m, a, b, c, d, e⟩ := ⟨_, rfl⟩
  rw [← hR] at CG ⊢
  have hlen : l.length = nt := h.rt.1
  cases R
  · have HT : Hid (tlT false l i = ⟨#[]⟩) := Lib.hid (tlT_no rfl)
    clear h hR hs
    go_enter Tryd.func14, Tryd.ntmps14
    go_wp2_with fail
    refine (CG.out _ HS.out.sp HL.out).mono ?_
    rintro e1 w1 ⟨rfl, k1⟩
    obtain ⟨t0, t1, t2, t3, t4, t5, t6⟩ := keepc7 k1 s0
    clear s0
    go_wp2_with fail
    go_ret2
    exact ⟨ret_sb HT.out.symm rfl, KA.trans k1⟩
  · have hb := rulOk_len hR.symm
    have hn2 : nt ≤ 6 := by omega
    by_cases i0 : i < 0
    · have e1 : tlB true l i = false := by unfold tlB; rw [Bool.true_and]; simp [inL]; omega
      have HT : Hid (tlT true l i = ⟨#[]⟩ ∧ tlB true l i = false) := Lib.hid ⟨tlT_no e1, e1⟩
      clear h hR hs e1 hlen hb
      go_enter Tryd.func14, Tryd.ntmps14
      go_wp2_with fail
      refine (CG.out _ HS.out.sp HL.out).mono ?_
      rintro e1 w1 ⟨rfl, k1⟩
      obtain ⟨t0, t1, t2, t3, t4, t5, t6⟩ := keepc7 k1 s0
      clear s0
      go_wp2_with fail
      go_ret2
      exact ⟨ret_sb HT.out.1.symm HT.out.2.symm, KA.trans k1⟩
    · have d0 : decide (i < 0) = false := by simpa using i0
      by_cases i1 : i < nt
      · obtain ⟨q, rfl⟩ : ∃ q : Nat, i = q := ⟨i.toNat, by omega⟩
        have hq : q < nt := by omega
        have e1 : tlB true l q = true := by unfold tlB; rw [hlen, Bool.true_and]; simp [inL]; omega
        obtain ⟨x, hx⟩ : ∃ x, l[q]? = some x := ⟨l[q]'(by omega), List.getElem?_eq_getElem _⟩
        have HT : Hid (tlT true l q = txt (terTx x) ∧ tlB true l q = true) := Lib.hid ⟨tlT_yes e1 hx, e1⟩
        have hsm := rulOk_ter hR.symm hx
        have hmk : m.length = nk := h.rk.1
        obtain ⟨g, off, rfl, hc⟩ := h.rt.2 (by omega)
        have hX := (hc q x hx).keep KA
        have hln := hsm.len
        obtain ⟨nm, cs, sh, hg, bl⟩ := x
        obtain ⟨Ac, cc, hcells, hrd⟩ := hX
        simp only at hln hcells hrd
        rw [hln] at hcells hrd
        have CX := Lib.hid (fun w hr hp => terrainLine_any nm Ac m.length cc cs sh hg bl w hr hsm (by omega) (by omega) hp)
        have HRD := Lib.hid hrd
        have d1 : decide ((nt : Int) ≤ (q : Int)) = false := by simp; omega
        have d2 : decide (nt ≤ q) = false := by simp; omega
        clear h hR hs e1 hlen hb hc hx hsm hmk hln hrd i0 i1
        generalize m.length = mn at *
        go_enter Tryd.func14, Tryd.ntmps14
        go_wp2_with fail
        refine (CG.out _ HS.out.sp HL.out).mono ?_
        rintro e1 w1 ⟨rfl, k1⟩
        obtain ⟨t0, t1, t2, t3, t4, t5, t6⟩ := keepc7 k1 s0
        clear s0
        obtain ⟨a0, a1, a2, a3, a4⟩ := hcells
        have b0 := k1.cell a0
        have b1 := k1.cell a1
        have b2 := k1.cell a2
        have b3 := k1.cell a3
        have b4 := k1.cell a4
        have HR1 := Lib.hid (HRD.out.keep k1)
        have HP1 := Lib.hid (HS.out.pow.keep k1)
        clear a0 a1 a2 a3 a4 HRD
        go_wp2_with fail
        refine (CX.out _ HR1.out HP1.out).mono ?_
        rintro e3 w3 ⟨rfl, k3⟩
        go_wp2_with fail
        go_ret2
        exact ⟨ret_sb HT.out.1.symm HT.out.2.symm, (KA.trans k1).trans k3⟩
      · have e1 : tlB true l i = false := by unfold tlB; rw [hlen, Bool.true_and]; simp [inL]; omega
        have HT : Hid (tlT true l i = ⟨#[]⟩ ∧ tlB true l i = false) := Lib.hid ⟨tlT_no e1, e1⟩
        have d1 : decide ((nt : Int) ≤ i) = true := by simp; omega
        have i2 : (nt : Int) ≤ i := by omega
        clear h hR hs e1 hlen hb
        go_enter Tryd.func14, Tryd.ntmps14
        go_wp2_with fail
        refine (CG.out _ HS.out.sp HL.out).mono ?_
        rintro e1 w1 ⟨rfl, k1⟩
        obtain ⟨t0, t1, t2, t3, t4, t5, t6⟩ := keepc7 k1 s0
        clear s0
        go_wp2_with fail
        go_ret2
        exact ⟨ret_sb HT.out.1.symm HT.out.2.symm, KA.trans k1⟩

end Go.Proofs.YtpdcmpojjchobaaDoor

/-
  The program's line of a name and numbers.
-/
namespace Go.Proofs.YtpdcmpojjchobaaDoor
open Go.RowKit

/-- A name and numbers, with a blank before each number. -/
def numsT (l : List Int) : List UInt8 := l.flatMap fun n => 32 :: Lib.itoa n
theorem numsT_join (nm : List UInt8) (l : List Int) : Lib.join (nm :: l.map Lib.itoa) [32] = nm ++ numsT l := by
  rw [Lib.join_cons]
  congr 1
  induction l with
  | nil => rfl
  | cons x l ih =>
    simp only [Lib.joinTail, numsT, List.map_cons, List.flatten_cons, List.flatMap_cons] at ih ⊢
    rw [ih]
    simp
theorem infoStrN : (Tryd.prog.info? 9).map (fun i => (i.zero, i.size, i.bytes)) = some (some (.string ⟨#[]⟩), 1, 16) := by kernel_rfl
theorem one_str (w : World) (x : Value) (t : TypeId) : ∀ (j : Nat) u, [x][j]? = some u → (w.alloc (.cells #[x] t)).cell? ((⟨w.heap.size, 0, none⟩ : Addr).add j) = some u := by
  intro j u hj
  match j, hj with
  | 0, hj => simp at hj; subst hj; simp [Addr.add]
theorem row_shapeS {w : World} {base n : Nat} {e : TypeId} {v : Value} {xs : List Value} (h : w.ownsRow base e 1 v n xs) (h0 : 0 < n) :
    ∃ g cap, v = .slice (some ⟨g, 0, none⟩) n cap ∧ base ≤ g ∧ g < w.heap.size ∧ n ≤ cap ∧ cap ≤ 9223372036854775807 := by
  have hl := World.ownsRow.lt h
  rcases h.2 with ⟨_, h1⟩ | ⟨g, cap, cur, e1, h2, _, h3, h4, _⟩
  · omega
  · exact ⟨g, cap, e1, h2, (hl g (by rw [e1]; rfl)).2, h3, by unfold maxLen at h4; omega⟩

set_option maxRecDepth 100000 in
set_option maxHeartbeats 4000000 in
theorem numbersLine_any (name : ByteArray) (v : Value) (ns : List Int) (w : World) (hr : RdI w v ns) (hn : ns.length ≤ 1048576)
    (hi : ∀ x ∈ ns, ∀ w', Kp w w' → Calls Tryd.prog 89 #[.int .i64 x] w' fun e w'' => e = .returned (.string (txt (Lib.itoa x))) ∧ Kp w' w'')
    (hsz : (name.data.toList ++ numsT ns).length ≤ 1000000000) :
    Calls Tryd.prog 44 #[.string name, v] w fun e w' => e = .returned (.string (txt (name.data.toList ++ numsT ns ++ [10]))) ∧ Kp w w' := by
  obtain ⟨A, c, rfl, hA⟩ := hr
  obtain ⟨j0, hj0, hz0, hs0, hb0⟩ := info_parts infoStrN
  obtain ⟨n, hnl⟩ : ∃ n, ns.length = n := ⟨_, rfl⟩
  rw [hnl] at hA hn ⊢
  have HN := Lib.hid hnl
  have HA := Lib.hid hA
  have HI := Lib.hid hi
  have HSZ := Lib.hid hsz
  have R0 : Hid ((w.alloc (.cells #[.string name] 9)).ownsRow w.heap.size 9 1 (.slice (some ⟨w.heap.size, 0, none⟩) 1 1) (0 + 1) ((name :: (ns.take 0).map fun x => txt (Lib.itoa x)).map Value.string)) := Lib.hid
    ⟨rfl, .inr ⟨w.heap.size, 1, #[.string name], rfl, Nat.le_refl _, Array.getElem?_push_size, Nat.le_refl _, by decide, rfl, rfl⟩⟩
  clear hnl hA hi hsz
  go_enter Tryd.func44, Tryd.ntmps44
  go_wp2_with fail
  go_loopw [5, 7, 12] (fun v _ i wr => ∃ q : Nat, q ≤ n ∧ i = .int .i64 q ∧ Hid (wr.ownsRow w.heap.size 9 1 v (q + 1) ((name :: (ns.take q).map fun x => txt (Lib.itoa x)).map Value.string)) ∧ Kp w wr) (fun _ _ i _ => n - (intOf i).toNat)
  case atStart => exact ⟨0, by omega, rfl, R0, (Kp.refl w).alloc _⟩
  case round =>
    clear R0
    obtain ⟨q, hq, rfl, HO, kr⟩ := hrel
    have hz := kr.size
    by_cases hlt : q < n
    · have hlt' : (q : Int) < n := by omega
      obtain ⟨x, hx⟩ : ∃ x, ns[q]? = some x := ⟨ns[q]'(by have := HN.out; omega), List.getElem?_eq_getElem _⟩
      obtain ⟨g, off, rfl, hc⟩ := HA.out (by have := HN.out; omega)
      have a0 := kr.cell (hc q x hx)
      have CX := Lib.hid (HI.out x (List.mem_of_getElem? hx) _ kr)
      obtain ⟨s, hs⟩ : ∃ s, txt (Lib.itoa x) = s := ⟨_, rfl⟩
      rw [hs] at CX
      have HM : Hid ((name :: (ns.take (q + 1)).map fun x => txt (Lib.itoa x)).map Value.string = (name :: (ns.take q).map fun x => txt (Lib.itoa x)).map Value.string ++ [.string s]) := Lib.hid (by
        rw [List.take_add_one, hx, ← hs]
        simp)
      clear hx hc hs
      go_wp2_with fail
      refine CX.out.mono ?_
      rintro e1 w1 ⟨rfl, k1⟩
      have HO1 := Lib.hid (ownsRow_keep HO.out k1)
      have K1 := kr.trans k1
      have hz1 : w.heap.size ≤ w1.heap.size := by have := k1.size; omega
      clear k1 kr
      go_wp2_with (at_builtin; refine wpList_append_own_at _ rfl (.tmp 16) (.tmp 19) 117 rfl w.heap.size 9 j0 (.string ⟨#[]⟩) 1 16 Tryd.underlying117 hj0 hz0 hs0 hb0 rfl (by decide) _ (q + 1) _ rfl (World.ownsRow.alloc HO1.out _) ⟨w1.heap.size, 0, none⟩ 1 1 [.string s] rfl rfl (one_str _ _ _) (by simp [Value.oneCell']) (by simp only [maxLen]; omega) (by omega) (by simp <;> omega) ?_; intro v1 w3 hown2 hgrow2 hnil2 hat2; clear hnil2 hat2; have O3 : Hid (w3.ownsRow w.heap.size 9 1 v1 (q + 1 + 1) ((name :: (ns.take (q + 1)).map fun x => txt (Lib.itoa x)).map Value.string)) := Lib.hid (by rw [HM.out]; exact hown2); have K3 : Kp w w3 := (K1.alloc _).grown hgrow2 (fun k e => (World.ownsRow.lt HO1.out k e).1); clear hown2 hgrow2)
      go_roundw
      case rel => exact ⟨q + 1, by omega, by go_num, O3, K3⟩
      case measure => simp [intOf]; omega
    · obtain rfl : q = n := by omega
      obtain ⟨g4, c4, ev, hg4, hg5, hg6, hg7⟩ := row_shapeS HO.out (by omega)
      subst ev
      obtain ⟨xs, hxs⟩ : ∃ xs, xs = name :: ns.map fun x => txt (Lib.itoa x) := ⟨_, rfl⟩
      have hxl : xs.length = q + 1 := by rw [hxs, List.length_cons, List.length_map, HN.out]
      have HX : Hid (wr.ownsRow w.heap.size 9 1 (.slice (some ⟨g4, 0, none⟩) (q + 1) c4) (q + 1) (xs.map Value.string)) := Lib.hid (by
        have h1 := HO.out
        rw [List.take_of_length_le (by rw [HN.out]; omega), ← hxs] at h1
        exact h1)
      have hxd : xs.map (·.data.toList) = name.data.toList :: ns.map Lib.itoa := by
        rw [hxs, List.map_cons, List.map_map]
        congr 1
      have CJ := Lib.hid (Tryd.strings_Join g4 0 c4 xs ⟨#[32]⟩ wr (fun j x hx => by
        have h1 := World.ownsRow.cellAt HX.out j (by have := (List.getElem?_eq_some_iff.1 hx).1; omega)
        rw [Nat.zero_add]
        exact h1.trans (by rw [List.getElem?_map, hx]; rfl)) hg5 (by omega) (by omega) (by rw [hxd, show (ByteArray.mk #[32]).data.toList = [32] from rfl, numsT_join]; exact Nat.le_trans HSZ.out (by decide)))
      rw [hxl, hxd, show (ByteArray.mk #[32]).data.toList = [32] from rfl, numsT_join] at CJ
      obtain ⟨s, hs⟩ : ∃ s, s = ByteArray.mk (name.data.toList ++ numsT ns).toArray := ⟨_, rfl⟩
      rw [← hs] at CJ
      have hsz : s.size ≤ 1000000000 := by
        rw [hs]
        show (name.data.toList ++ numsT ns).toArray.size ≤ _
        rw [List.size_toArray]
        exact HSZ.out
      have HT : Hid (s ++ ByteArray.mk #[10] = txt (name.data.toList ++ numsT ns ++ [10])) := Lib.hid (by rw [hs, show ByteArray.mk #[10] = txt [10] from rfl]; exact txt_app _ _)
      have y1 : ¬ 9223372036854775807 < s.size + 1 := by omega
      clear hxl hxd hxs hs HX HO
      go_wp2_with fail
      refine CJ.out.mono ?_
      rintro e3 w3 ⟨rfl, k3⟩
      go_wp2_with fail
      go_ret
      exact ⟨by rw [HT.out] <;> rfl, kr.trans k3⟩

end Go.Proofs.YtpdcmpojjchobaaDoor

/-
  The addresses of the five limits of rules in memory.
-/
namespace Go.Proofs.YtpdcmpojjchobaaDoor
open Go.RowKit

set_option maxRecDepth 100000 in
set_option maxHeartbeats 8000000 in
theorem limitsOf_any (b : Nat) (w : World) (v2 v3 v4 v5 v6 : Value) (_c2 : w.cell? ⟨b, 2, none⟩ = some v2) (_c3 : w.cell? ⟨b, 3, none⟩ = some v3) (_c4 : w.cell? ⟨b, 4, none⟩ = some v4) (_c5 : w.cell? ⟨b, 5, none⟩ = some v5) (_c6 : w.cell? ⟨b, 6, none⟩ = some v6) :
    Calls Tryd.prog 42 #[.pointer (some ⟨b, 0, none⟩)] w fun e w' => e = .returned (.agg #[.pointer (some ⟨b, 2, none⟩), .pointer (some ⟨b, 3, none⟩), .pointer (some ⟨b, 4, none⟩), .pointer (some ⟨b, 5, none⟩), .pointer (some ⟨b, 6, none⟩)]) ∧ Kp w w' := by
  have s1 : True := trivial
  go_enter Tryd.func42, Tryd.ntmps42
  go_wp2_with fail
  refine wp_region_held_drew (S := (fun _ => True)) (by kernel_rfl) ?_ (fun hHeld => ?_)
  · exact s1
  refine wpAnyH_take (i := 0) (oi := ⟨some 3, _, _, _, _, _⟩) (v := ?_) rfl (by kernel_rfl) (by kernel_rfl) (by kernel_rfl) (fun _ _ _ h => h) (Or.inl ⟨by rfl, ?_⟩) (by assumption) ?_
  rotate_left
  · intro w hSw; (try dsimp only at hSw); go_simp; (all_goals with_reducible rfl)
  simp only [Act.put, List.setIfInBounds_toArray, List.set_cons_zero, List.set_cons_succ]
  refine wpAnyH_take (i := 1) (oi := ⟨some 4, _, _, _, _, _⟩) (v := ?_) rfl (by kernel_rfl) (by kernel_rfl) (by kernel_rfl) (fun _ _ _ h => h) (Or.inl ⟨by rfl, ?_⟩) (by assumption) ?_
  rotate_left
  · intro w hSw; (try dsimp only at hSw); go_simp; (all_goals with_reducible rfl)
  simp only [Act.put, List.setIfInBounds_toArray, List.set_cons_zero, List.set_cons_succ]
  refine wpAnyH_take (i := 2) (oi := ⟨some 5, _, _, _, _, _⟩) (v := ?_) rfl (by kernel_rfl) (by kernel_rfl) (by kernel_rfl) (fun _ _ _ h => h) (Or.inl ⟨by rfl, ?_⟩) (by assumption) ?_
  rotate_left
  · intro w hSw; (try dsimp only at hSw); go_simp; (all_goals with_reducible rfl)
  simp only [Act.put, List.setIfInBounds_toArray, List.set_cons_zero, List.set_cons_succ]
  refine wpAnyH_take (i := 3) (oi := ⟨some 6, _, _, _, _, _⟩) (v := ?_) rfl (by kernel_rfl) (by kernel_rfl) (by kernel_rfl) (fun _ _ _ h => h) (Or.inl ⟨by rfl, ?_⟩) (by assumption) ?_
  rotate_left
  · intro w hSw; (try dsimp only at hSw); go_simp; (all_goals with_reducible rfl)
  simp only [Act.put, List.setIfInBounds_toArray, List.set_cons_zero, List.set_cons_succ]
  refine wpAnyH_take (i := 4) (oi := ⟨some 7, _, _, _, _, _⟩) (v := ?_) rfl (by kernel_rfl) (by kernel_rfl) (by kernel_rfl) (fun _ _ _ h => h) (Or.inl ⟨by rfl, ?_⟩) (by assumption) ?_
  rotate_left
  · intro w hSw; (try dsimp only at hSw); go_simp; (all_goals with_reducible rfl)
  simp only [Act.put, List.setIfInBounds_toArray, List.set_cons_zero, List.set_cons_succ]
  refine wpAnyH_take (i := 5) (oi := ⟨some 8, _, _, _, _, _⟩) (v := ?_) rfl (by kernel_rfl) (by kernel_rfl) (by kernel_rfl) (fun _ _ _ h => h) (Or.inl ⟨by rfl, ?_⟩) (by assumption) ?_
  rotate_left
  · intro w hSw; (try dsimp only at hSw); go_simp; (all_goals with_reducible rfl)
  simp only [Act.put, List.setIfInBounds_toArray, List.set_cons_zero, List.set_cons_succ]
  refine wpAnyH_take (i := 6) (oi := ⟨some 9, _, _, _, _, _⟩) (v := ?_) rfl (by kernel_rfl) (by kernel_rfl) (by kernel_rfl) (fun _ _ _ h => h) (Or.inl ⟨by rfl, ?_⟩) (by assumption) ?_
  rotate_left
  · intro w hSw; (try dsimp only at hSw); go_simp; (all_goals with_reducible rfl)
  simp only [Act.put, List.setIfInBounds_toArray, List.set_cons_zero, List.set_cons_succ]
  refine wpAnyH_take (i := 7) (oi := ⟨some 10, _, _, _, _, _⟩) (v := ?_) rfl (by kernel_rfl) (by kernel_rfl) (by kernel_rfl) (fun _ _ _ h => h) (Or.inl ⟨by rfl, ?_⟩) (by assumption) ?_
  rotate_left
  · intro w hSw; (try dsimp only at hSw); go_simp; (all_goals with_reducible rfl)
  simp only [Act.put, List.setIfInBounds_toArray, List.set_cons_zero, List.set_cons_succ]
  refine wpAnyH_take (i := 8) (oi := ⟨some 11, _, _, _, _, _⟩) (v := ?_) rfl (by kernel_rfl) (by kernel_rfl) (by kernel_rfl) (fun _ _ _ h => h) (Or.inl ⟨by rfl, ?_⟩) (by assumption) ?_
  rotate_left
  · intro w hSw; (try dsimp only at hSw); go_simp; (all_goals with_reducible rfl)
  simp only [Act.put, List.setIfInBounds_toArray, List.set_cons_zero, List.set_cons_succ]
  refine wpAnyH_take (i := 9) (oi := ⟨some 12, _, _, _, _, _⟩) (v := ?_) rfl (by kernel_rfl) (by kernel_rfl) (by kernel_rfl) (fun _ _ _ h => h) (Or.inl ⟨by rfl, ?_⟩) (by assumption) ?_
  rotate_left
  · intro w hSw; (try dsimp only at hSw); go_simp; (all_goals with_reducible rfl)
  simp only [Act.put, List.setIfInBounds_toArray, List.set_cons_zero, List.set_cons_succ]
  refine wpAnyH_take (i := 10) (oi := ⟨some 13, _, _, _, _, _⟩) (v := ?_) rfl (by kernel_rfl) (by kernel_rfl) (by kernel_rfl) (fun _ _ _ h => h) (Or.inl ⟨by rfl, ?_⟩) (by assumption) ?_
  rotate_left
  · intro w hSw; (try dsimp only at hSw); go_simp; (all_goals with_reducible rfl)
  simp only [Act.put, List.setIfInBounds_toArray, List.set_cons_zero, List.set_cons_succ]
  refine wpAnyH_take (i := 11) (oi := ⟨some 14, _, _, _, _, _⟩) (v := ?_) rfl (by kernel_rfl) (by kernel_rfl) (by kernel_rfl) (fun _ _ _ h => h) (Or.inl ⟨by rfl, ?_⟩) (by assumption) ?_
  rotate_left
  · intro w hSw; (try dsimp only at hSw); go_simp; (all_goals with_reducible rfl)
  simp only [Act.put, List.setIfInBounds_toArray, List.set_cons_zero, List.set_cons_succ]
  refine wpAnyH_take (i := 12) (oi := ⟨some 15, _, _, _, _, _⟩) (v := ?_) rfl (by kernel_rfl) (by kernel_rfl) (by kernel_rfl) (fun _ _ _ h => h) (Or.inl ⟨by rfl, ?_⟩) (by assumption) ?_
  rotate_left
  · intro w hSw; (try dsimp only at hSw); go_simp; (all_goals with_reducible rfl)
  simp only [Act.put, List.setIfInBounds_toArray, List.set_cons_zero, List.set_cons_succ]
  refine wpAnyH_take (i := 13) (oi := ⟨some 16, _, _, _, _, _⟩) (v := ?_) rfl (by kernel_rfl) (by kernel_rfl) (by kernel_rfl) (fun _ _ _ h => h) (Or.inl ⟨by rfl, ?_⟩) (by assumption) ?_
  rotate_left
  · intro w hSw; (try dsimp only at hSw); go_simp; (all_goals with_reducible rfl)
  simp only [Act.put, List.setIfInBounds_toArray, List.set_cons_zero, List.set_cons_succ]
  refine wpAnyH_take (i := 14) (oi := ⟨some 17, _, _, _, _, _⟩) (v := ?_) rfl (by kernel_rfl) (by kernel_rfl) (by kernel_rfl) (fun _ _ _ h => h) (Or.inl ⟨by rfl, ?_⟩) (by assumption) ?_
  rotate_left
  · intro w hSw; (try dsimp only at hSw); go_simp; (all_goals with_reducible rfl)
  simp only [Act.put, List.setIfInBounds_toArray, List.set_cons_zero, List.set_cons_succ]
  refine wpAnyH_take (i := 15) (oi := ⟨some 18, _, _, _, _, _⟩) (v := ?_) rfl (by kernel_rfl) (by kernel_rfl) (by kernel_rfl) (fun _ _ _ h => h) (Or.inl ⟨by rfl, ?_⟩) (by assumption) ?_
  rotate_left
  · intro w hSw; (try dsimp only at hSw); go_simp; (all_goals with_reducible rfl)
  simp only [Act.put, List.setIfInBounds_toArray, List.set_cons_zero, List.set_cons_succ]
  refine wpAnyH_ready (rs := [16]) (by kernel_rfl) (by simp) ?_
  refine AllReadyH.cons (o := ⟨none, _, _, _, _, _⟩) rfl (fun K hK => ?_) AllReadyH.nil
  go_simp
  refine hK.out _ _ ?_ (fun hHeld => ?_)
  · (try dsimp only); (all_goals trivial)
  clear hK K
  try simp only [Act.put, List.setIfInBounds_toArray, List.set_cons_zero, List.set_cons_succ]
  refine wpAnyH_done (by kernel_rfl) ?_ _
  go_wp2_with fail
  exact bodyPost_ret (v := .agg #[.pointer (some ⟨b, 2, none⟩), .pointer (some ⟨b, 3, none⟩), .pointer (some ⟨b, 4, none⟩), .pointer (some ⟨b, 5, none⟩), .pointer (some ⟨b, 6, none⟩)]) (by simp [results, Tryd.results42, go_sem]) rfl ⟨rfl, ((Kp.refl w).alloc _).drew⟩

end Go.Proofs.YtpdcmpojjchobaaDoor

/-
  The text of rules as bytes.
-/
namespace Go.Proofs.YtpdcmpojjchobaaDoor
open Go.RowKit

def limW : List (List UInt8) := [[115, 116, 97, 99, 107], [114, 105, 118, 101, 114], [114, 111, 97, 100], [115, 117, 112, 112, 108, 121], [116, 117, 114, 110, 115]]
def limLine (p : List UInt8 × Int) : List UInt8 := p.1 ++ [32] ++ Lib.decDigits p.2.toNat ++ [10]
def limsT (vs : List Int) (q : Nat) : List UInt8 := ((limW.zip vs).take q).flatMap limLine
def kndsT (m : List Knd) : List UInt8 := m.flatMap fun k => kindTx k ++ [10]
def tersT (l : List Ter) : List UInt8 := l.flatMap fun t => terTx t ++ [10]
def rulTx (r : Rul) : List UInt8 := limsT [r.stack, r.river, r.road, r.supply, r.turns] 5 ++ kndsT r.knds ++ tersT r.ters

theorem limW_at {q : Nat} (h : q < 5) : ∃ nm, limW[q]? = some nm ∧ nm.length ≤ 6 := by
  match q, h with
  | 0, _ => exact ⟨_, rfl, by decide⟩
  | 1, _ => exact ⟨_, rfl, by decide⟩
  | 2, _ => exact ⟨_, rfl, by decide⟩
  | 3, _ => exact ⟨_, rfl, by decide⟩
  | 4, _ => exact ⟨_, rfl, by decide⟩
theorem limsT_more {vs : List Int} {q : Nat} {nm : List UInt8} {x : Int} (h : limW[q]? = some nm) (h' : vs[q]? = some x) : limsT vs (q + 1) = limsT vs q ++ limLine (nm, x) := by
  have e : (limW.zip vs)[q]? = some (nm, x) := by rw [List.getElem?_zip_eq_some]; exact ⟨h, h'⟩
  rw [limsT, List.take_add_one, e]
  simp [limsT]
theorem limLine_len {nm : List UInt8} {x : Int} (h : nm.length ≤ 6) (h1 : x < 100) : (limLine (nm, x)).length ≤ 10 := by
  have := digits_len2 (n := x.toNat) (by omega)
  simp only [limLine, List.length_append, List.length_cons, List.length_nil]
  omega
theorem limsT_len (vs : List Int) (hv : ∀ x ∈ vs, x < 100) (hl : vs.length = 5) : ∀ q, q ≤ 5 → (limsT vs q).length ≤ 10 * q
  | 0, _ => by simp [limsT]
  | q + 1, hq => by
    obtain ⟨nm, h1, h2⟩ := limW_at (q := q) (by omega)
    obtain ⟨x, hx⟩ : ∃ x, vs[q]? = some x := ⟨vs[q]'(by omega), List.getElem?_eq_getElem _⟩
    have := limsT_len vs hv hl q (by omega)
    have := limLine_len h2 (hv x (List.mem_of_getElem? hx))
    rw [limsT_more h1 hx, List.length_append]
    omega
theorem kndsT_more {m : List Knd} {q : Nat} {k : Knd} (h : m[q]? = some k) : kndsT (m.take (q + 1)) = kndsT (m.take q) ++ (kindTx k ++ [10]) := by
  rw [List.take_add_one, h]
  simp [kndsT]
theorem tersT_more {l : List Ter} {q : Nat} {t : Ter} (h : l[q]? = some t) : tersT (l.take (q + 1)) = tersT (l.take q) ++ (terTx t ++ [10]) := by
  rw [List.take_add_one, h]
  simp [tersT]
theorem kndSm_len {k : Knd} (h : KndSm k) : (kindTx k).length ≤ 64 := kindTx_len k h.nm h.str.2 h.mov.2 h.stp.2 h.view.2
theorem terSm_len {t : Ter} {n : Nat} (h : TerSm t n) : (terTx t).length ≤ 64 + 3 * n := by
  have := terTx_len t h.nm h.shift.1 h.shift.2 h.height.2 (fun x hx => (h.cost x hx).2)
  rw [h.len] at this
  exact this
theorem kndsT_len : ∀ (m : List Knd), (∀ k ∈ m, KndSm k) → (kndsT m).length ≤ 65 * m.length
  | [], _ => by simp [kndsT]
  | k :: m, h => by
    have h1 := kndsT_len m (fun y hy => h y (List.mem_cons_of_mem _ hy))
    have h2 := kndSm_len (h k (List.mem_cons_self ..))
    have e : kndsT (k :: m) = (kindTx k ++ [10]) ++ kndsT m := by simp [kndsT]
    rw [e, List.length_append, List.length_append, List.length_cons, List.length_cons, List.length_nil]
    omega
theorem tersT_len (n : Nat) (hn : n ≤ 4) : ∀ (l : List Ter), (∀ t ∈ l, TerSm t n) → (tersT l).length ≤ 77 * l.length
  | [], _ => by simp [tersT]
  | t :: l, h => by
    have h1 := tersT_len n hn l (fun y hy => h y (List.mem_cons_of_mem _ hy))
    have h2 := terSm_len (h t (List.mem_cons_self ..))
    have e : tersT (t :: l) = (terTx t ++ [10]) ++ tersT l := by simp [tersT]
    rw [e, List.length_append, List.length_append, List.length_cons, List.length_cons, List.length_nil]
    omega
theorem rulOk_knds {l : List Ter} {m : List Knd} {a b c d e : Int} (h : rulOk ⟨l, m, a, b, c, d, e⟩ = true) : ∀ k ∈ m, KndSm k := fun k hk => by
  obtain ⟨i, hi⟩ := List.getElem?_of_mem hk
  exact rulOk_knd h hi
theorem rulOk_ters {l : List Ter} {m : List Knd} {a b c d e : Int} (h : rulOk ⟨l, m, a, b, c, d, e⟩ = true) : ∀ t ∈ l, TerSm t m.length := fun k hk => by
  obtain ⟨i, hi⟩ := List.getElem?_of_mem hk
  exact rulOk_ter h hi

end Go.Proofs.YtpdcmpojjchobaaDoor
