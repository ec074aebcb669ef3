/-
  Texts of this seat in one module: Hex, RulM, HexB, Far, Row, Mark, RowB.
-/
import Derived.Test.YtbohefollbmhkaaGreatDoorProg
import Derived.WalkKit
import Derived.WalkLawsBesides
import Derived.Below
import Derived.KernelRfl
import Derived.Lib.Hide
import Derived.Lib.SlicesS
import Derived.LoopTactic
import Derived.IntWalk
import Derived.Laws.AppendOwn
import Derived.Laws.OwnMore
import Derived.OwnWalk
import Derived.Deep.RegionHeld3
import Derived.Maps.AppendAt
import Derived.Laws.MakeOwn

/-
  The small functions on hexes (valid coordinates, valid hexes, copying and comparing hexes) return what plain functions on integers say, and change nothing that was there.
-/
namespace Go.Proofs.YtbohefollbmhkaaGreatDoor
open Go.RowKit

/-- Everything that lay in w lies in w' as it was. -/
def Kp (w w' : World) : Prop := Below w.heap.size w w'
theorem Kp.refl (w : World) : Kp w w := Below.refl _ _
theorem Kp.trans {a b c : World} (h : Kp a b) (k : Kp b c) : Kp a c := Below.trans h (Below.mono k (Below.size h))
theorem Kp.alloc {a w : World} (h : Kp a w) (o : Obj) : Kp a (w.alloc o) := Below.alloc h (Below.size h) o
theorem Kp.drew {a w : World} (h : Kp a w) : Kp a w.drew := Below.drew h
theorem Kp.drewN {a w : World} (h : Kp a w) (n : Nat) : Kp a (w.drewN n) := ⟨h.os, h.tape, h.output, h.size, h.block⟩
theorem Kp.setCell {a w : World} (h : Kp a w) {p : Addr} (hp : a.heap.size ≤ p.block) (u : Value) : Kp a (w.setCell p u) := Below.setCell h hp u
theorem Kp.cells {W w1 : World} (hb : Kp W w1) : (∀ b o, b < W.heap.size → w1.cell? ⟨b, o, none⟩ = W.cell? ⟨b, o, none⟩) ∧ (∀ b o, b < W.heap.size → w1.frozen? ⟨b, o, none⟩ = W.frozen? ⟨b, o, none⟩) :=
  ⟨fun b o h => Below.cell (p := ⟨b, o, none⟩) hb h, fun b o h => Below.frozen (p := ⟨b, o, none⟩) hb h⟩

theorem Kp.rules {W w1 : World} (hb : Kp W w1) : (∀ b o, b < W.heap.size → w1.cell? ⟨b, o, none⟩ = W.cell? ⟨b, o, none⟩) ∧ (∀ b o, b < W.heap.size → w1.frozen? ⟨b, o, none⟩ = W.frozen? ⟨b, o, none⟩) ∧
    (∀ b, b < W.heap.size → b < w1.heap.size) ∧ (∀ b, b < W.heap.size → b ≠ w1.heap.size) ∧ (∀ b, b < W.heap.size → w1.heap.size ≠ b) :=
  have hz : W.heap.size ≤ w1.heap.size := hb.size
  ⟨hb.cells.1, hb.cells.2, fun _ _ => by omega, fun _ _ => by omega, fun _ _ => by omega⟩
theorem Kp.cell {W w1 : World} (hk : Kp W w1) {p : Addr} {v : Value} (h : W.cell? p = some v) : w1.cell? p = some v := by
  have hlt : p.block < W.heap.size := by
    rcases Nat.lt_or_ge p.block W.heap.size with hlt | hge
    · exact hlt
    · simp [World.cell?, Array.getElem?_eq_none hge] at h
  rw [Below.cell hk hlt, h]
theorem Kp.two {W w1 : World} (hk : Kp W w1) {p0 p1 : Addr} {v0 v1 : Value} (h : W.cell? p0 = some v0 ∧ W.cell? p1 = some v1) : w1.cell? p0 = some v0 ∧ w1.cell? p1 = some v1 :=
  ⟨hk.cell h.1, hk.cell h.2⟩
theorem Kp.four {W w1 : World} (hk : Kp W w1) {p0 p1 p2 p3 : Addr} {v0 v1 v2 v3 : Value} (h : W.cell? p0 = some v0 ∧ W.cell? p1 = some v1 ∧ W.cell? p2 = some v2 ∧ W.cell? p3 = some v3) :
    w1.cell? p0 = some v0 ∧ w1.cell? p1 = some v1 ∧ w1.cell? p2 = some v2 ∧ w1.cell? p3 = some v3 := ⟨hk.cell h.1, hk.cell h.2.1, hk.cell h.2.2.1, hk.cell h.2.2.2⟩

abbrev hx (q r : Int) : Value := .agg #[.int .i64 q, .int .i64 r]
def okC (n : Int) : Bool := decide (-40 ≤ n) && decide (n ≤ 40)
def okH (q r : Int) : Bool := okC q && okC r

theorem okC_true {n : Int} (h : okC n = true) : -40 ≤ n ∧ n ≤ 40 := by simpa [okC] using h
theorem okC_mk {n : Int} (h : -40 ≤ n) (h' : n ≤ 40) : okC n = true := by simp [okC, h, h']
theorem okC_lo {n : Int} (h : ¬ -40 ≤ n) : okC n = false := by
  have h' : decide (-40 ≤ n) = false := by simpa using h
  simp only [okC, h', Bool.false_and]
theorem okC_hi {n : Int} (h : ¬ n ≤ 40) : okC n = false := by
  have h' : decide (n ≤ 40) = false := by simpa using h
  simp only [okC, h', Bool.and_false]
theorem okH_true {q r : Int} (h : okH q r = true) : -40 ≤ q ∧ q ≤ 40 ∧ -40 ≤ r ∧ r ≤ 40 := by
  simp only [okH, Bool.and_eq_true] at h
  exact ⟨(okC_true h.1).1, (okC_true h.1).2, (okC_true h.2).1, (okC_true h.2).2⟩
theorem okH_mk {q r : Int} (a : -40 ≤ q) (b : q ≤ 40) (c : -40 ≤ r) (d : r ≤ 40) : okH q r = true := by simp [okH, okC, a, b, c, d]

theorem ret_bool {a b : Bool} (h : a = b) : Ending.returned (.bool a) = .returned (.bool b) := by rw [h]
theorem ret_int {a b : Int} (h : a = b) : Ending.returned (.int .i64 a) = .returned (.int .i64 b) := by rw [h]

theorem l1In_any (n : Int) (w : World) :
    Calls Tryz.prog 26 #[.int .i64 n, .int .i64 (-40), .int .i64 40] w fun e w' => e = .returned (.bool (okC n)) ∧ w = w' := by
  by_cases h1 : -40 ≤ n
  · by_cases h2 : n ≤ 40
    · go_enter Tryz.func26, Tryz.ntmps26
      go_wp2
      go_ret
      exact ⟨ret_bool (okC_mk h1 h2).symm, rfl⟩
    · go_enter Tryz.func26, Tryz.ntmps26
      go_wp2
      go_ret
      exact ⟨ret_bool (okC_hi (by omega)).symm, rfl⟩
  · go_enter Tryz.func26, Tryz.ntmps26
    go_wp2
    go_ret
    exact ⟨ret_bool (okC_lo (by omega)).symm, rfl⟩


end Go.Proofs.YtbohefollbmhkaaGreatDoor

/-
  Rules as plain data: terrains, kinds, names, and when they are valid, in the program's order and in the reference's. No program is looked into.
-/
namespace Go.Proofs.YtbohefollbmhkaaGreatDoor
open Go.RowKit

structure Ter where
  name : ByteArray
  cost : List Int
  shift : Int
  height : Int
  blocks : Bool
structure Knd where
  name : ByteArray
  str : Int
  mov : Int
  stp : Int
  zone : Bool
  view : Int
structure Rul where
  ters : List Ter
  knds : List Knd
  stack : Int
  river : Int
  road : Int
  supply : Int
  turns : Int

def spB (lo hi n : Int) : Bool := decide (lo ≤ n) && decide (n ≤ hi)
def lowB (c : UInt8) : Bool := decide (97 ≤ (c.toNat : Int)) && decide ((c.toNat : Int) ≤ 122)
def lowFrom (l : List UInt8) : Bool := l.all lowB
def nameOk (s : ByteArray) : Bool := spB 1 8 s.size && lowFrom s.data.toList

/-- For each number below n. -/
def allN (n : Nat) (f : Nat → Bool) : Bool := (List.range n).all f
theorem allN_mk {n : Nat} {f : Nat → Bool} (h : ∀ j, j < n → f j = true) : allN n f = true := by
  unfold allN
  rw [List.all_eq_true]
  intro x hx
  exact h x (List.mem_range.1 hx)
theorem allN_no {n : Nat} {f : Nat → Bool} {k : Nat} (hk : k < n) (h : f k = false) : allN n f = false := by
  unfold allN
  rw [List.all_eq_false]
  exact ⟨k, List.mem_range.2 hk, by simp [h]⟩
theorem allN_at {n : Nat} {f : Nat → Bool} (h : allN n f = true) {j : Nat} (hj : j < n) : f j = true := by
  unfold allN at h
  rw [List.all_eq_true] at h
  exact h j (List.mem_range.2 hj)
theorem allN_iff {n : Nat} {f : Nat → Bool} : allN n f = true ↔ ∀ j, j < n → f j = true := ⟨fun h _ hj => allN_at h hj, allN_mk⟩

def hasS (l : List ByteArray) (x : ByteArray) : Bool := decide (0 ≤ Lib.idxOfS l x)
theorem hasS_iff (l : List ByteArray) (x : ByteArray) : hasS l x = true ↔ x ∈ l := by
  unfold hasS
  rw [decide_eq_true_iff]
  exact Lib.idxOfS_nonneg_iff l x
theorem hasS_no {l : List ByteArray} {x : ByteArray} (h : x ∉ l) : hasS l x = false := by
  cases e : hasS l x
  · rfl
  · exact absurd ((hasS_iff l x).1 e) h
def nameAt (l : List ByteArray) (k : Nat) : Bool := nameOk (l.getD k ByteArray.empty) && !hasS (l.take k) (l.getD k ByteArray.empty)
/-- All names are valid and differ. -/
def namesOk (l : List ByteArray) : Bool := allN l.length (nameAt l)

def numT (nk : Nat) (t : Ter) : Bool := decide (t.cost.length = nk) && (t.cost.all (spB 0 9) && (spB (-3) 3 t.shift && spB 0 3 t.height))
def numK (k : Knd) : Bool := spB 1 9 k.str && (spB 0 9 k.mov && (spB 1 4 k.stp && spB 0 4 k.view))
def limB (a b c d e : Int) : Bool := spB 1 4 a && (spB 0 9 b && (spB 1 9 c && (spB 0 20 d && spB 1 30 e)))
def tNames (l : List Ter) : List ByteArray := l.map (·.name)
def kNames (l : List Knd) : List ByteArray := l.map (·.name)
/-- Valid rules, as the program asks. -/
def rulOk (r : Rul) : Bool :=
  (spB 1 6 r.ters.length && (spB 1 4 r.knds.length && limB r.stack r.river r.road r.supply r.turns)) &&
    (r.ters.all (numT r.knds.length) && (r.knds.all numK && (namesOk (tNames r.ters) && namesOk (kNames r.knds))))

/-- The place of a name, or -1. -/
def idxS (l : List ByteArray) (x : ByteArray) : Int := Lib.idxOfS l x
/-- A terrain at its place, as the reference asks. -/
def terAt (l : List Ter) (nk : Nat) (i : Nat) (t : Ter) : Bool :=
  nameOk t.name && (decide (idxS (tNames l) t.name = i) && (decide (t.cost.length = nk) && (t.cost.all (spB 0 9) && (spB (-3) 3 t.shift && spB 0 3 t.height))))
def kndAt (l : List Knd) (i : Nat) (k : Knd) : Bool :=
  nameOk k.name && (decide (idxS (kNames l) k.name = i) && (spB 1 9 k.str && (spB 0 9 k.mov && (spB 1 4 k.stp && spB 0 4 k.view))))
def terF (l : List Ter) (nk : Nat) (i : Nat) : Bool := match l[i]? with | some t => terAt l nk i t | none => true
def kndF (l : List Knd) (i : Nat) : Bool := match l[i]? with | some k => kndAt l i k | none => true
theorem terF_at {l : List Ter} {nk i : Nat} {t : Ter} (h : l[i]? = some t) : terF l nk i = terAt l nk i t := by unfold terF; rw [h]
theorem kndF_at {l : List Knd} {i : Nat} {k : Knd} (h : l[i]? = some k) : kndF l i = kndAt l i k := by unfold kndF; rw [h]

theorem firstOf (f : Nat → ByteArray) (x : ByteArray) : ∀ j, f j = x → ∃ m, m ≤ j ∧ f m = x ∧ ∀ i, i < m → f i ≠ x := by
  intro j
  induction j using Nat.strongRecOn with
  | _ j ih =>
    intro h
    by_cases hx : ∃ i, i < j ∧ f i = x
    · obtain ⟨i, hi, e⟩ := hx
      obtain ⟨m, hm, em, hf⟩ := ih i hi e
      exact ⟨m, by omega, em, hf⟩
    · exact ⟨j, Nat.le_refl _, h, fun i hi e => hx ⟨i, hi, e⟩⟩
theorem idxS_first {l : List ByteArray} {k : Nat} (hk : k < l.length) (hn : ∀ j, j < k → l.getD j ByteArray.empty ≠ l.getD k ByteArray.empty) : idxS l (l.getD k ByteArray.empty) = k := by
  have := Lib.idxOfS_hit l l.length k (l.getD k ByteArray.empty) hk (Nat.le_refl _) rfl hn
  rwa [List.take_length] at this
theorem idxS_eq {l : List ByteArray} {k : Nat} (hk : k < l.length) : decide (idxS l (l.getD k ByteArray.empty) = k) = !hasS (l.take k) (l.getD k ByteArray.empty) := by
  have hgd : ∀ j, j < l.length → l[j]? = some (l.getD j ByteArray.empty) := fun j hj => by simp [List.getD, List.getElem?_eq_getElem hj]
  by_cases hm : l.getD k ByteArray.empty ∈ l.take k
  · rw [(hasS_iff _ _).2 hm]
    obtain ⟨j, hj, e⟩ := List.mem_iff_getElem.1 hm
    have hjk : j < k := by simp at hj; omega
    have ej : l.getD j ByteArray.empty = l.getD k ByteArray.empty := by
      rw [← e]
      simp [List.getD, List.getElem?_eq_getElem (show j < l.length by omega)]
    obtain ⟨m, hmj, em, hf⟩ := firstOf (fun j => l.getD j ByteArray.empty) _ j ej
    have em : l.getD m ByteArray.empty = l.getD k ByteArray.empty := em
    have hf : ∀ i, i < m → l.getD i ByteArray.empty ≠ l.getD k ByteArray.empty := hf
    have h1 : idxS l (l.getD m ByteArray.empty) = m := idxS_first (by omega) (fun j hj => by rw [em]; exact hf j hj)
    rw [em] at h1
    rw [h1]
    have : ¬ ((m : Int) = k) := by omega
    simp [this]
  · rw [hasS_no hm]
    have := idxS_first hk (fun j hj e => hm (by
      rw [← e]
      have : (l.take k)[j]? = some (l.getD j ByteArray.empty) := by rw [List.getElem?_take, if_pos hj]; exact hgd j (by omega)
      exact List.mem_of_getElem? this))
    rw [decide_eq_true this]
    rfl

theorem tName_at {l : List Ter} {i : Nat} {t : Ter} (h : l[i]? = some t) : (tNames l).getD i ByteArray.empty = t.name := by simp [tNames, List.getD, h]
theorem kName_at {l : List Knd} {i : Nat} {t : Knd} (h : l[i]? = some t) : (kNames l).getD i ByteArray.empty = t.name := by simp [kNames, List.getD, h]
theorem lt_of_at {α : Type} {l : List α} {i : Nat} {t : α} (h : l[i]? = some t) : i < l.length := (List.getElem?_eq_some_iff.1 h).1
theorem terF_parts {l : List Ter} {nk i : Nat} {t : Ter} (h : l[i]? = some t) : terF l nk i = (nameAt (tNames l) i && numT nk t) := by
  have e := idxS_eq (l := tNames l) (k := i) (by simpa [tNames] using lt_of_at h)
  rw [tName_at h] at e
  rw [terF_at h]
  unfold terAt nameAt numT
  rw [tName_at h, e, Bool.and_assoc]
theorem kndF_parts {l : List Knd} {i : Nat} {t : Knd} (h : l[i]? = some t) : kndF l i = (nameAt (kNames l) i && numK t) := by
  have e := idxS_eq (l := kNames l) (k := i) (by simpa [kNames] using lt_of_at h)
  rw [kName_at h] at e
  rw [kndF_at h]
  unfold kndAt nameAt numK
  rw [kName_at h, e, Bool.and_assoc]
theorem terF_all {l : List Ter} {nk : Nat} : allN l.length (terF l nk) = true ↔ l.all (numT nk) = true ∧ namesOk (tNames l) = true := by
  unfold namesOk
  rw [allN_iff, allN_iff, List.all_eq_true]
  have hlen : (tNames l).length = l.length := by simp [tNames]
  rw [hlen]
  constructor
  · intro h
    refine ⟨fun t ht => ?_, fun j hj => ?_⟩
    · obtain ⟨i, hi, rfl⟩ := List.mem_iff_getElem.1 ht
      have := h i hi
      rw [terF_parts (List.getElem?_eq_getElem hi), Bool.and_eq_true] at this
      exact this.2
    · have := h j hj
      rw [terF_parts (List.getElem?_eq_getElem hj), Bool.and_eq_true] at this
      exact this.1
  · rintro ⟨h1, h2⟩ j hj
    rw [terF_parts (List.getElem?_eq_getElem hj), Bool.and_eq_true]
    exact ⟨h2 j hj, h1 _ (List.getElem_mem hj)⟩
theorem kndF_all {l : List Knd} : allN l.length (kndF l) = true ↔ l.all numK = true ∧ namesOk (kNames l) = true := by
  unfold namesOk
  rw [allN_iff, allN_iff, List.all_eq_true]
  have hlen : (kNames l).length = l.length := by simp [kNames]
  rw [hlen]
  constructor
  · intro h
    refine ⟨fun t ht => ?_, fun j hj => ?_⟩
    · obtain ⟨i, hi, rfl⟩ := List.mem_iff_getElem.1 ht
      have := h i hi
      rw [kndF_parts (List.getElem?_eq_getElem hi), Bool.and_eq_true] at this
      exact this.2
    · have := h j hj
      rw [kndF_parts (List.getElem?_eq_getElem hj), Bool.and_eq_true] at this
      exact this.1
  · rintro ⟨h1, h2⟩ j hj
    rw [kndF_parts (List.getElem?_eq_getElem hj), Bool.and_eq_true]
    exact ⟨h2 j hj, h1 _ (List.getElem_mem hj)⟩

/-- Valid rules, as the reference asks. -/
def rulS (r : Rul) : Bool :=
  (spB 1 6 r.ters.length && spB 1 4 r.knds.length) && (allN r.ters.length (terF r.ters r.knds.length) && (allN r.knds.length (kndF r.knds) && limB r.stack r.river r.road r.supply r.turns))
theorem rulS_eq (r : Rul) : rulS r = rulOk r := by
  rw [Bool.eq_iff_iff]
  unfold rulS rulOk
  simp only [Bool.and_eq_true, terF_all, kndF_all]
  constructor
  · rintro ⟨⟨a, b⟩, ⟨c, d⟩, ⟨e, f⟩, g⟩
    exact ⟨⟨a, b, g⟩, c, e, d, f⟩
  · rintro ⟨⟨a, b, g⟩, c, e, d, f⟩
    exact ⟨⟨a, b⟩, ⟨c, d⟩, ⟨e, f⟩, g⟩

end Go.Proofs.YtbohefollbmhkaaGreatDoor

/-
  More small functions on hexes: differences, shifts, valid or zero, comparing. They return what plain functions on integers say, and change nothing that was there.
-/
namespace Go.Proofs.YtbohefollbmhkaaGreatDoor
open Go.RowKit

def vI (b : Bool) (x : Int) : Int := if b = true then x else 0
abbrev ib (b : Bool) (x : Int) : Value := .tuple #[.int .i64 (vI b x), .bool b]
theorem vI_true (x : Int) : vI true x = x := rfl
theorem vI_false (x : Int) : vI false x = 0 := rfl
abbrev hb3 (b : Bool) (q r : Int) : Value := .tuple #[hx (vI b q) (vI b r), .bool b]

theorem l1In_gen (n lo hi : Int) (w : World) :
    Calls Tryz.prog 26 #[.int .i64 n, .int .i64 lo, .int .i64 hi] w fun e w' => e = .returned (.bool (decide (lo ≤ n) && decide (n ≤ hi))) ∧ w = w' := by
  by_cases h1 : lo ≤ n
  · by_cases h2 : n ≤ hi
    · go_enter Tryz.func26, Tryz.ntmps26
      go_wp2
      go_ret
      exact ⟨ret_bool (by simp [h1, h2]), rfl⟩
    · have d2 : decide (n ≤ hi) = false := by simpa using h2
      go_enter Tryz.func26, Tryz.ntmps26
      go_wp2
      go_ret
      exact ⟨ret_bool (by simp), rfl⟩
  · have d1 : decide (lo ≤ n) = false := by simpa using h1
    go_enter Tryz.func26, Tryz.ntmps26
    go_wp2
    go_ret
    exact ⟨ret_bool (by simp), rfl⟩

theorem hb3_eq {b b' : Bool} {q r q' r' : Int} (h : b = b') (hq : q = q') (hr : r = r') : hb3 b q r = hb3 b' q' r' := by rw [h, hq, hr]

end Go.Proofs.YtbohefollbmhkaaGreatDoor

/-
  Small facts on cells behind stores into another block. No program is looked into.
-/
namespace Go.Proofs.YtbohefollbmhkaaGreatDoor
open Go.RowKit

theorem far2 {w : World} {p : Addr} {v : Value} (h : w.cell? p = some v) {g i j : Nat} {X Y : Value} (hne : p.block ≠ g) : ((w.setCell ⟨g, i, none⟩ X).setCell ⟨g, j, none⟩ Y).cell? p = some v := by
  rw [World.cell?_setCell_other _ _ _ _ (fun e => hne (by rw [← e])), World.cell?_setCell_other _ _ _ _ (fun e => hne (by rw [← e])), h]
theorem far_four {w : World} {b0 b1 o0 o1 o2 o3 : Nat} {v0 v1 v2 v3 : Value} {g i j : Nat} {X Y : Value} (hne : b0 ≠ g ∧ b1 ≠ g)
    (h : w.cell? ⟨b0, o0, none⟩ = some v0 ∧ w.cell? ⟨b0, o1, none⟩ = some v1 ∧ w.cell? ⟨b1, o2, none⟩ = some v2 ∧ w.cell? ⟨b1, o3, none⟩ = some v3) :
    ((w.setCell ⟨g, i, none⟩ X).setCell ⟨g, j, none⟩ Y).cell? ⟨b0, o0, none⟩ = some v0 ∧ ((w.setCell ⟨g, i, none⟩ X).setCell ⟨g, j, none⟩ Y).cell? ⟨b0, o1, none⟩ = some v1 ∧ ((w.setCell ⟨g, i, none⟩ X).setCell ⟨g, j, none⟩ Y).cell? ⟨b1, o2, none⟩ = some v2 ∧ ((w.setCell ⟨g, i, none⟩ X).setCell ⟨g, j, none⟩ Y).cell? ⟨b1, o3, none⟩ = some v3 :=
  ⟨far2 h.1 hne.1, far2 h.2.1 hne.1, far2 h.2.2.1 hne.2, far2 h.2.2.2 hne.2⟩
theorem far_two {w : World} {b0 o0 o1 : Nat} {v0 v1 : Value} {g i j : Nat} {X Y : Value} (hne : b0 ≠ g) (h : w.cell? ⟨b0, o0, none⟩ = some v0 ∧ w.cell? ⟨b0, o1, none⟩ = some v1) :
    ((w.setCell ⟨g, i, none⟩ X).setCell ⟨g, j, none⟩ Y).cell? ⟨b0, o0, none⟩ = some v0 ∧ ((w.setCell ⟨g, i, none⟩ X).setCell ⟨g, j, none⟩ Y).cell? ⟨b0, o1, none⟩ = some v1 :=
  ⟨far2 h.1 hne, far2 h.2 hne⟩

theorem cell_lt {w : World} {b o : Nat} {v : Value} (h : w.cell? ⟨b, o, none⟩ = some v) : b < w.heap.size := by
  rcases Nat.lt_or_ge b w.heap.size with hlt | hge
  · exact hlt
  · simp [World.cell?, Array.getElem?_eq_none hge] at h
theorem Kp.liv {W w1 : World} (hk : Kp W w1) {p : Addr} {v : Value} (h : W.cell? p = some v ∧ W.frozen? p = false) : w1.cell? p = some v ∧ w1.frozen? p = false := by
  have hlt : p.block < W.heap.size := by
    rcases Nat.lt_or_ge p.block W.heap.size with hlt | hge
    · exact hlt
    · have := h.1
      simp [World.cell?, Array.getElem?_eq_none hge] at this
  exact ⟨hk.cell h.1, (Below.frozen hk hlt).trans h.2⟩

end Go.Proofs.YtbohefollbmhkaaGreatDoor

/-
  Slices of hexes as lists of pairs of integers; comparing two that hold the same list, marking one's cells and finding the marks again. Nothing else is changed.
-/
namespace Go.Proofs.YtbohefollbmhkaaGreatDoor
open Go.RowKit

theorem Kp.grown {a w w' : World} {row : Option Nat} (h : Kp a w) (hg : w.grownBy w' row) (hr : ∀ k, row = some k → a.heap.size ≤ k) : Kp a w' := Below.grown h hg (Below.size h) hr

/-- The slice v reads as the list l of hexes. -/
def RdH (w : World) (v : Value) (l : List (Int × Int)) : Prop :=
  ∃ A c, v = .slice A l.length c ∧ (0 < l.length → ∃ g off, A = some ⟨g, off, none⟩ ∧ ∀ i x, l[i]? = some x → w.cell? ⟨g, off + i * 2, none⟩ = some (.int .i64 x.1) ∧ w.cell? ⟨g, off + i * 2 + 1, none⟩ = some (.int .i64 x.2))
theorem RdH.keep {w w' : World} {v : Value} {l : List (Int × Int)} (h : RdH w v l) (hk : Kp w w') : RdH w' v l := by
  obtain ⟨A, c, rfl, h⟩ := h
  refine ⟨A, c, rfl, fun h0 => ?_⟩
  obtain ⟨g, off, rfl, hc⟩ := h h0
  exact ⟨g, off, rfl, fun i x hx => ⟨hk.cell (hc i x hx).1, hk.cell (hc i x hx).2⟩⟩

/-- The cells of a list of hexes. -/
def cellsH : List (Int × Int) → List Value
  | [] => []
  | x :: l => .int .i64 x.1 :: .int .i64 x.2 :: cellsH l
theorem cellsH_length : ∀ l, (cellsH l).length = l.length * 2
  | [] => rfl
  | x :: l => by simp only [cellsH, List.length_cons, cellsH_length l]; omega
theorem cellsH_append : ∀ l m, cellsH (l ++ m) = cellsH l ++ cellsH m
  | [], _ => rfl
  | x :: l, m => by simp only [cellsH, List.cons_append, cellsH_append l m]
theorem cellsH_at : ∀ (l : List (Int × Int)) (i : Nat) (x : Int × Int), l[i]? = some x → (cellsH l)[i * 2]? = some (.int .i64 x.1) ∧ (cellsH l)[i * 2 + 1]? = some (.int .i64 x.2)
  | [], _, _, h => by simp at h
  | y :: l, 0, x, h => by
    simp only [List.getElem?_cons_zero, Option.some.injEq] at h
    subst h
    exact ⟨rfl, rfl⟩
  | y :: l, i + 1, x, h => by
    have := cellsH_at l i x (by simpa using h)
    have e1 : (i + 1) * 2 = i * 2 + 1 + 1 := by omega
    rw [e1]
    exact ⟨by simpa [cellsH] using this.1, by simpa [cellsH] using this.2⟩

theorem ownsRow_keep {w w' : World} {base : Nat} {e : TypeId} {size : Nat} {v : Value} {n : Nat} {xs : List Value} (h : w.ownsRow base e size v n xs) (hk : Kp w w') : w'.ownsRow base e size v n xs :=
  h.kept (row := none) ⟨hk.os, hk.tape, hk.output, hk.size, fun k hlt _ => hk.block k hlt⟩ (by cases hv : v.ownBlock <;> simp)
end Go.Proofs.YtbohefollbmhkaaGreatDoor

/-
  Marking the cells of a slice of hexes that the call owns with k, k+1, .., and finding the marks again.
-/
namespace Go.Proofs.YtbohefollbmhkaaGreatDoor
open Go.RowKit

def marks (k0 : Int) (m : Nat) : List Value := (List.range m).map fun j : Nat => .int .i64 (k0 + (j : Int))
theorem marks_at (k0 : Int) (m j : Nat) (h : j < m) : (marks k0 m)[j]? = some (.int .i64 (k0 + j)) := by simp [marks, h]
theorem marks_length (k0 : Int) (m : Nat) : (marks k0 m).length = m := by simp [marks]

theorem marks_step (k0 : Int) (xs : List Value) (t n : Nat) (hl : xs.length = n * 2) (ht : t < n) :
    ((marks k0 (t * 2) ++ xs.drop (t * 2)).set (t * 2) (.int .i64 (k0 + (t * 2 : Nat)))).set (t * 2 + 1) (.int .i64 (k0 + (t * 2 + 1 : Nat))) = marks k0 ((t + 1) * 2) ++ xs.drop ((t + 1) * 2) := by
  apply List.ext_getElem?
  intro j
  rw [List.getElem?_set, List.getElem?_set]
  simp only [List.length_set, List.length_append, marks_length, List.length_drop]
  by_cases h1 : t * 2 + 1 = j
  · subst h1
    rw [if_pos rfl, if_pos (by omega), List.getElem?_append_left (by rw [marks_length]; omega), marks_at _ _ _ (by omega)]
  · rw [if_neg h1]
    by_cases h2 : t * 2 = j
    · subst h2
      rw [if_pos rfl, if_pos (by omega), List.getElem?_append_left (by rw [marks_length]; omega), marks_at _ _ _ (by omega)]
    · rw [if_neg h2]
      by_cases h3 : j < t * 2
      · rw [List.getElem?_append_left (by rw [marks_length]; omega), List.getElem?_append_left (by rw [marks_length]; omega), marks_at _ _ _ h3, marks_at _ _ _ (by omega)]
      · rw [List.getElem?_append_right (by rw [marks_length]; omega), List.getElem?_append_right (by rw [marks_length]; omega), marks_length, marks_length, List.getElem?_drop, List.getElem?_drop]
        congr 1
        omega

end Go.Proofs.YtbohefollbmhkaaGreatDoor

/-
  What a function says that returns a new list of hexes and true, or none and false; small facts on slices of hexes that a call owns.
-/
namespace Go.Proofs.YtbohefollbmhkaaGreatDoor
open Go.RowKit

def allOk (l : List (Int × Int)) : Bool := l.all fun x => okH x.1 x.2
theorem allOk_false {l : List (Int × Int)} {i : Nat} {x : Int × Int} (hx : l[i]? = some x) (h : okH x.1 x.2 = false) : allOk l = false := by
  unfold allOk
  rw [List.all_eq_false]
  exact ⟨x, List.mem_of_getElem? hx, by simp [h]⟩
theorem allOk_true {l : List (Int × Int)} (h : ∀ (i : Nat) x, l[i]? = some x → okH x.1 x.2 = true) : allOk l = true := by
  unfold allOk
  rw [List.all_eq_true]
  intro x hx
  obtain ⟨i, hi, rfl⟩ := List.mem_iff_getElem.1 hx
  exact h i _ (List.getElem?_eq_getElem hi)

theorem grown_set (w : World) (g j : Nat) (u : Value) : w.grownBy (w.setCell ⟨g, j, none⟩ u) (some g) :=
  ⟨rfl, rfl, rfl, by simp, fun k _ hk => heap_setCell_other w ⟨g, j, none⟩ k u (fun e => hk (by simp [e]))⟩
theorem grown_frozen {w w' : World} {row : Option Nat} (hg : w.grownBy w' row) {b o : Nat} {v : Value} (h : w.cell? ⟨b, o, none⟩ = some v) (hne : some b ≠ row) (hf : w.frozen? ⟨b, o, none⟩ = false) : w'.frozen? ⟨b, o, none⟩ = false :=
  (World.frozen?_of_block (hg.block b (cell_lt h) hne)).trans hf

theorem two_new (w : World) (x y : Value) (t : TypeId) : ∀ j u, [x, y][j]? = some u → (w.alloc (.cells #[x, y] t)).cell? ((⟨w.heap.size, 0, none⟩ : Addr).add j) = some u := by
  intro j u hj
  match j, hj with
  | 0, hj => simp at hj; subst hj; simp [Addr.add]
  | 1, hj => simp at hj; subst hj; simp [Addr.add]

end Go.Proofs.YtbohefollbmhkaaGreatDoor
