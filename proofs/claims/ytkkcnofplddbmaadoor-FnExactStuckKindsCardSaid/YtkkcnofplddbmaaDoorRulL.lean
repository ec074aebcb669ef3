/-
  The laws' sizes of terrains, kinds and rules: either what is left is negative, or all that was counted is small. Nothing that was there is changed.
-/
import Derived.Test.YtkkcnofplddbmaaDoorRulS
import Derived.Test.YtkkcnofplddbmaaDoorMapL
namespace Go.Proofs.YtkkcnofplddbmaaDoor
open Go.RowKit

/-- A negative number, or what is left and P. -/
def SzPost (P : Prop) (w : World) (e : Ending) (w' : World) : Prop := ∃ r : Int, e = .returned (.int .i64 r) ∧ r ≤ 1048576 ∧ -1 ≤ r ∧ (0 ≤ r → P) ∧ Kp w w'

def smT (x : Ter) : Prop := x.cost.length ≤ 1048576 ∧ x.name.size ≤ 1048576
def smK (x : Knd) : Prop := x.name.size ≤ 1048576

theorem szTerrain_any (n : ByteArray) (A : Option Addr) (nc cc : Nat) (s h : Int) (b : Bool) (left : Int) (w : World) (h0 : 0 ≤ left) (h1 : left ≤ 1048576) (hn : n.size ≤ 9223372036854775807) (hc : nc ≤ 9223372036854775807) :
    Calls Tryd.prog 89 #[tv n A nc cc s h b, .int .i64 left] w (SzPost (nc ≤ 1048576 ∧ n.size ≤ 1048576) w) := by
  by_cases a1 : (n.size : Int) ≤ left
  · have a1' : ¬ (left - n.size) < 0 := by omega
    by_cases a2 : (nc : Int) ≤ left - n.size
    · have a2' : ¬ (left - n.size - nc) < 0 := by omega
      go_enter Tryd.func89, Tryd.ntmps89
      go_wp2_with fail
      refine (szIntS_yes _ _ _ _ _ (by omega) (by omega) (by omega)).mono ?_
      rintro e1 w1 ⟨rfl, rfl⟩
      go_wp2_with fail
      go_ret
      exact ⟨_, rfl, by omega, by omega, fun _ => (by omega), (Kp.refl _).alloc _⟩
    · go_enter Tryd.func89, Tryd.ntmps89
      go_wp2_with fail
      refine (szIntS_no _ _ _ _ _ (by omega) (by omega) (by omega) (by omega)).mono ?_
      rintro e1 w1 ⟨rfl, rfl⟩
      go_wp2_with fail
      go_ret
      exact ⟨_, rfl, by omega, by omega, fun h => absurd h (by omega), (Kp.refl _).alloc _⟩
  · have a1' : (left - n.size) < 0 := by omega
    go_enter Tryd.func89, Tryd.ntmps89
    go_wp2_with fail
    go_ret
    exact ⟨_, rfl, by omega, by omega, fun h => absurd h (by omega), (Kp.refl _).alloc _⟩

theorem szKind_any (n : ByteArray) (a b c : Int) (z : Bool) (v : Int) (left : Int) (w : World) (h0 : 0 ≤ left) (h1 : left ≤ 1048576) (hn : n.size ≤ 9223372036854775807) :
    Calls Tryd.prog 90 #[kv n a b c z v, .int .i64 left] w (SzPost (n.size ≤ 1048576) w) := by
  by_cases a1 : (n.size : Int) ≤ left
  · have a1' : ¬ (left - n.size) < 0 := by omega
    go_enter Tryd.func90, Tryd.ntmps90
    go_wp2_with fail
    go_ret
    exact ⟨_, rfl, by omega, by omega, fun _ => (by omega), (Kp.refl _).alloc _⟩
  · have a1' : (left - n.size) < 0 := by omega
    go_enter Tryd.func90, Tryd.ntmps90
    go_wp2_with fail
    go_ret
    exact ⟨_, rfl, by omega, by omega, fun h => absurd h (by omega), (Kp.refl _).alloc _⟩

set_option maxRecDepth 100000 in
set_option maxHeartbeats 1000000 in
theorem szTerrainS_any (A : Option Addr) (n c : Nat) (l : List Ter) (left : Int) (w : World) (h : RdT w A n l) (h0 : 0 ≤ left) (h1 : left ≤ 1048576) (hn : n ≤ 9223372036854775807) (hb : ∀ x ∈ l, x.cost.length ≤ 9223372036854775807 ∧ x.name.size ≤ 9223372036854775807) :
    Calls Tryd.prog 49 #[.slice A n c, .int .i64 left] w (SzPost (n ≤ 1048576 ∧ ∀ x ∈ l, smT x) w) := by
  have HN := Lib.hid h.1
  have HA := Lib.hid h.2
  have HB := Lib.hid hb
  clear h hb
  obtain ⟨P, hP⟩ : ∃ P, P = (n ≤ 1048576 ∧ ∀ x ∈ l, smT x) := ⟨_, rfl⟩
  rw [← hP]
  have HP := Lib.hid hP
  clear hP
  by_cases a1 : (n : Int) ≤ left
  · have a1' : ¬ (left - n) < 0 := by omega
    go_enter Tryd.func49, Tryd.ntmps49
    go_wp2_with fail
    go_loopw [1, 5] (fun v i wr => ∃ (k : Nat) (r : Int), k ≤ n ∧ i = .int .i64 k ∧ v = .int .i64 r ∧ 0 ≤ r ∧ r ≤ 1048576 ∧ Hid (∀ j x, j < k → l[j]? = some x → smT x) ∧ Kp w wr) (fun _ i _ => n - (intOf i).toNat)
    case atStart => exact ⟨0, _, by omega, rfl, rfl, by omega, by omega, Lib.hid fun j x hj => absurd hj (by omega), Kp.refl _⟩
    case round =>
      obtain ⟨k, r, hk, rfl, rfl, r0, r1, hE, kr⟩ := hrel
      by_cases hlt : k < n
      · have hlt' : (k : Int) < n := by omega
        obtain ⟨g, off, rfl, hc⟩ := HA.out (by omega)
        obtain ⟨x, hx⟩ : ∃ x, l[k]? = some x := ⟨l[k]'(by have := HN.out; omega), List.getElem?_eq_getElem _⟩
        obtain ⟨Ac, cc, ⟨a0, a1, a2, a3, a4⟩, _⟩ := (hc k x hx).keep kr
        have HX := Lib.hid hx
        have hbx := HB.out x (List.mem_of_getElem? hx)
        obtain ⟨nm, cs, sh, hg, bl⟩ := x
        simp only at a0 a1 a2 a3 a4 hbx
        obtain ⟨hb1, hb2⟩ := hbx
        generalize hnc : cs.length = nc at a1 hb1
        have HNC2 := Lib.hid hnc
        clear hnc
        clear hc hx
        go_wp2_with fail
        refine (szTerrain_any _ _ _ _ _ _ _ _ _ r0 r1 hb2 hb1).mono ?_
        rintro e1 w1 ⟨r2, rfl, u1, u2, u3, k1⟩
        by_cases hneg : r2 < 0
        · go_wp2_with fail
          go_ret
          exact ⟨_, rfl, by omega, by omega, fun h => absurd h (by omega), kr.trans k1⟩
        · have hs : Hid (smT ⟨nm, cs, sh, hg, bl⟩) := Lib.hid (by have := u3 (by omega); simpa [smT, HNC2.out] using this)
          have HE2 : Hid (∀ j x, j < k + 1 → l[j]? = some x → smT x) := Lib.hid fun j x hj hx => by
            rcases Nat.lt_or_ge j k with hjk | hjk
            · exact hE.out j x hjk hx
            · obtain rfl : j = k := by omega
              rw [HX.out] at hx
              obtain rfl := Option.some.inj hx
              exact hs.out
          clear u3
          go_wp2_with fail
          go_roundw
          case rel => exact ⟨k + 1, r2, by omega, by go_num, rfl, by omega, by omega, HE2, kr.trans k1⟩
          case measure => simp [intOf]; omega
      · obtain rfl : k = n := by omega
        go_wp2_with fail
        go_ret
        refine ⟨_, rfl, by omega, by omega, fun _ => ?_, kr⟩
        rw [HP.out]
        refine ⟨by omega, fun x hx => ?_⟩
        obtain ⟨i, hi, rfl⟩ := List.mem_iff_getElem.1 hx
        exact hE.out i _ (by have := HN.out; omega) (List.getElem?_eq_getElem hi)
  · have a1' : (left - n) < 0 := by omega
    go_enter Tryd.func49, Tryd.ntmps49
    go_wp2_with fail
    go_ret
    exact ⟨_, rfl, by omega, by omega, fun h => absurd h (by omega), Kp.refl _⟩

set_option maxRecDepth 100000 in
set_option maxHeartbeats 1000000 in
theorem szKindS_any (A : Option Addr) (n c : Nat) (l : List Knd) (left : Int) (w : World) (h : RdK w A n l) (h0 : 0 ≤ left) (h1 : left ≤ 1048576) (hn : n ≤ 9223372036854775807) (hb : ∀ x ∈ l, x.name.size ≤ 9223372036854775807) :
    Calls Tryd.prog 50 #[.slice A n c, .int .i64 left] w (SzPost (n ≤ 1048576 ∧ ∀ x ∈ l, smK x) w) := by
  have HN := Lib.hid h.1
  have HA := Lib.hid h.2
  have HB := Lib.hid hb
  clear h hb
  obtain ⟨P, hP⟩ : ∃ P, P = (n ≤ 1048576 ∧ ∀ x ∈ l, smK x) := ⟨_, rfl⟩
  rw [← hP]
  have HP := Lib.hid hP
  clear hP
  by_cases a1 : (n : Int) ≤ left
  · have a1' : ¬ (left - n) < 0 := by omega
    go_enter Tryd.func50, Tryd.ntmps50
    go_wp2_with fail
    go_loopw [1, 5] (fun v i wr => ∃ (k : Nat) (r : Int), k ≤ n ∧ i = .int .i64 k ∧ v = .int .i64 r ∧ 0 ≤ r ∧ r ≤ 1048576 ∧ Hid (∀ j x, j < k → l[j]? = some x → smK x) ∧ Kp w wr) (fun _ i _ => n - (intOf i).toNat)
    case atStart => exact ⟨0, _, by omega, rfl, rfl, by omega, by omega, Lib.hid fun j x hj => absurd hj (by omega), Kp.refl _⟩
    case round =>
      obtain ⟨k, r, hk, rfl, rfl, r0, r1, hE, kr⟩ := hrel
      by_cases hlt : k < n
      · have hlt' : (k : Int) < n := by omega
        obtain ⟨g, off, rfl, hc⟩ := HA.out (by omega)
        obtain ⟨x, hx⟩ : ∃ x, l[k]? = some x := ⟨l[k]'(by have := HN.out; omega), List.getElem?_eq_getElem _⟩
        obtain ⟨a0, a1, a2, a3, a4, a5⟩ := (hc k x hx).keep kr
        have HX := Lib.hid hx
        have hbx := HB.out x (List.mem_of_getElem? hx)
        obtain ⟨nm, ks, km, kt, kz, kw⟩ := x
        simp only at a0 a1 a2 a3 a4 a5 hbx
        clear hc hx
        go_wp2_with fail
        refine (szKind_any _ _ _ _ _ _ _ _ r0 r1 hbx).mono ?_
        rintro e1 w1 ⟨r2, rfl, u1, u2, u3, k1⟩
        by_cases hneg : r2 < 0
        · go_wp2_with fail
          go_ret
          exact ⟨_, rfl, by omega, by omega, fun h => absurd h (by omega), kr.trans k1⟩
        · have hs : Hid (smK ⟨nm, ks, km, kt, kz, kw⟩) := Lib.hid (by have := u3 (by omega); exact this)
          have HE2 : Hid (∀ j x, j < k + 1 → l[j]? = some x → smK x) := Lib.hid fun j x hj hx => by
            rcases Nat.lt_or_ge j k with hjk | hjk
            · exact hE.out j x hjk hx
            · obtain rfl : j = k := by omega
              rw [HX.out] at hx
              obtain rfl := Option.some.inj hx
              exact hs.out
          clear u3
          go_wp2_with fail
          go_roundw
          case rel => exact ⟨k + 1, r2, by omega, by go_num, rfl, by omega, by omega, HE2, kr.trans k1⟩
          case measure => simp [intOf]; omega
      · obtain rfl : k = n := by omega
        go_wp2_with fail
        go_ret
        refine ⟨_, rfl, by omega, by omega, fun _ => ?_, kr⟩
        rw [HP.out]
        refine ⟨by omega, fun x hx => ?_⟩
        obtain ⟨i, hi, rfl⟩ := List.mem_iff_getElem.1 hx
        exact hE.out i _ (by have := HN.out; omega) (List.getElem?_eq_getElem hi)
  · have a1' : (left - n) < 0 := by omega
    go_enter Tryd.func50, Tryd.ntmps50
    go_wp2_with fail
    go_ret
    exact ⟨_, rfl, by omega, by omega, fun h => absurd h (by omega), Kp.refl _⟩

/-- What an argument's rules are: two slices that read as lists, within Go's own bounds. -/
structure RulIn (w : World) (At Ak : Option Addr) (nt nk : Nat) (l : List Ter) (m : List Knd) : Prop where
  rt : RdT w At nt l
  rk : RdK w Ak nk m
  bt : nt ≤ 9223372036854775807
  bk : nk ≤ 9223372036854775807
  bc : ∀ x ∈ l, x.cost.length ≤ 9223372036854775807 ∧ x.name.size ≤ 9223372036854775807
  bn : ∀ x ∈ m, x.name.size ≤ 9223372036854775807
def rulSm (nt nk : Nat) (l : List Ter) (m : List Knd) : Prop := (nt ≤ 1048576 ∧ ∀ x ∈ l, smT x) ∧ (nk ≤ 1048576 ∧ ∀ x ∈ m, smK x)
theorem RulIn.at {w : World} {At Ak : Option Addr} {nt nk : Nat} {l : List Ter} {m : List Knd} (h : RulIn w At Ak nt nk l m) (s : rulSm nt nk l m) : RulAt w At Ak nt nk l m :=
  ⟨h.rt, h.rk, s.1.1, s.2.1, s.1.2, s.2.2⟩

set_option maxRecDepth 100000 in
set_option maxHeartbeats 1000000 in
theorem szRules_any (At Ak : Option Addr) (nt nk ct ck : Nat) (l : List Ter) (m : List Knd) (a b c d e : Int) (left : Int) (w : World) (h : RulIn w At Ak nt nk l m) (h0 : 0 ≤ left) (h1 : left ≤ 1048576) :
    Calls Tryd.prog 13 #[rv (.slice At nt ct) (.slice Ak nk ck) a b c d e, .int .i64 left] w (SzPost (rulSm nt nk l m) w) := by
  have HL := Lib.hid h
  have KA : Kp w (w.alloc (.cells #[.slice At nt ct, .slice Ak nk ck, .int .i64 a, .int .i64 b, .int .i64 c, .int .i64 d, .int .i64 e] 25)) := (Kp.refl w).alloc _
  have f1 : (w.alloc (.cells #[.slice At nt ct, .slice Ak nk ck, .int .i64 a, .int .i64 b, .int .i64 c, .int .i64 d, .int .i64 e] 25)).cell? ⟨w.heap.size, 1, none⟩ = some (.slice Ak nk ck) := by simp [go_sem]
  clear h
  go_enter Tryd.func13, Tryd.ntmps13
  go_wp2_with fail
  refine (szTerrainS_any _ _ _ l _ _ (HL.out.rt.keep KA) h0 h1 HL.out.bt HL.out.bc).mono ?_
  rintro e1 w1 ⟨r1, rfl, u1, u2, u3, k1⟩
  have f2 := k1.cell f1
  have H3 := Lib.hid u3
  clear u3
  by_cases hneg : r1 < 0
  · go_wp2_with fail
    go_ret
    exact ⟨_, rfl, by omega, by omega, fun h => absurd h (by omega), KA.trans k1⟩
  · go_wp2_with fail
    refine (szKindS_any _ _ _ m _ _ (HL.out.rk.keep (KA.trans k1)) (by omega) u1 HL.out.bk HL.out.bn).mono ?_
    rintro e2 w2 ⟨r2, rfl, v1, v2, v3, k2⟩
    have H4 := Lib.hid v3
    clear v3
    by_cases hneg2 : r2 < 0
    · go_wp2_with fail
      go_ret
      exact ⟨_, rfl, by omega, by omega, fun h => absurd h (by omega), (KA.trans k1).trans k2⟩
    · go_wp2_with fail
      go_ret
      exact ⟨_, rfl, by omega, by omega, fun _ => ⟨H3.out (by omega), H4.out (by omega)⟩, (KA.trans k1).trans k2⟩

end Go.Proofs.YtkkcnofplddbmaaDoor
