/-
  Texts of this seat in one module: Hex, RulM, Dirs, HexB, Far, Row, Mark, RowB, Ints, SpB, MapM, Dir, MapI, MapJ, MapK, StepA, StepB, Step, MapS, MapT, IsMapI, Good, MapF.
-/
import Derived.Test.YtmolpkjdjkhnpaaGreatDoorProg
import Derived.WalkKit
import Derived.WalkLawsBesides
import Derived.Below
import Derived.KernelRfl
import Derived.Lib.Hide
import Derived.Lib.SlicesS
import Derived.LoopTactic
import Derived.IntWalk
import Derived.Laws.AppendOwn
import Derived.Laws.OwnMore
import Derived.OwnWalk
import Derived.Deep.RegionHeld3
import Derived.Maps.AppendAt
import Derived.Laws.MakeOwn
import Derived.Deep.QuietTactic
import Derived.BigQuiet
import Derived.RegionTactic
import Derived.BigRegion

/-
  The small functions on hexes (valid coordinates, valid hexes, copying and comparing hexes) return what plain functions on integers say, and change nothing that was there.
-/
namespace Go.Proofs.YtmolpkjdjkhnpaaGreatDoor
open Go.RowKit

/-- Everything that lay in w lies in w' as it was. -/
def Kp (w w' : World) : Prop := Below w.heap.size w w'
theorem Kp.refl (w : World) : Kp w w := Below.refl _ _
theorem Kp.trans {a b c : World} (h : Kp a b) (k : Kp b c) : Kp a c := Below.trans h (Below.mono k (Below.size h))
theorem Kp.alloc {a w : World} (h : Kp a w) (o : Obj) : Kp a (w.alloc o) := Below.alloc h (Below.size h) o
theorem Kp.drew {a w : World} (h : Kp a w) : Kp a w.drew := Below.drew h
theorem Kp.drewN {a w : World} (h : Kp a w) (n : Nat) : Kp a (w.drewN n) := ⟨h.os, h.tape, h.output, h.size, h.block⟩
theorem Kp.setCell {a w : World} (h : Kp a w) {p : Addr} (hp : a.heap.size ≤ p.block) (u : Value) : Kp a (w.setCell p u) := Below.setCell h hp u
theorem Kp.cells {W w1 : World} (hb : Kp W w1) : (∀ b o, b < W.heap.size → w1.cell? ⟨b, o, none⟩ = W.cell? ⟨b, o, none⟩) ∧ (∀ b o, b < W.heap.size → w1.frozen? ⟨b, o, none⟩ = W.frozen? ⟨b, o, none⟩) :=
  ⟨fun b o h => Below.cell (p := ⟨b, o, none⟩) hb h, fun b o h => Below.frozen (p := ⟨b, o, none⟩) hb h⟩

theorem Kp.rules {W w1 : World} (hb : Kp W w1) : (∀ b o, b < W.heap.size → w1.cell? ⟨b, o, none⟩ = W.cell? ⟨b, o, none⟩) ∧ (∀ b o, b < W.heap.size → w1.frozen? ⟨b, o, none⟩ = W.frozen? ⟨b, o, none⟩) ∧
    (∀ b, b < W.heap.size → b < w1.heap.size) ∧ (∀ b, b < W.heap.size → b ≠ w1.heap.size) ∧ (∀ b, b < W.heap.size → w1.heap.size ≠ b) :=
  have hz : W.heap.size ≤ w1.heap.size := hb.size
  ⟨hb.cells.1, hb.cells.2, fun _ _ => by omega, fun _ _ => by omega, fun _ _ => by omega⟩
theorem Kp.cell {W w1 : World} (hk : Kp W w1) {p : Addr} {v : Value} (h : W.cell? p = some v) : w1.cell? p = some v := by
  have hlt : p.block < W.heap.size := by
    rcases Nat.lt_or_ge p.block W.heap.size with hlt | hge
    · exact hlt
    · simp [World.cell?, Array.getElem?_eq_none hge] at h
  rw [Below.cell hk hlt, h]
theorem Kp.two {W w1 : World} (hk : Kp W w1) {p0 p1 : Addr} {v0 v1 : Value} (h : W.cell? p0 = some v0 ∧ W.cell? p1 = some v1) : w1.cell? p0 = some v0 ∧ w1.cell? p1 = some v1 :=
  ⟨hk.cell h.1, hk.cell h.2⟩
theorem Kp.four {W w1 : World} (hk : Kp W w1) {p0 p1 p2 p3 : Addr} {v0 v1 v2 v3 : Value} (h : W.cell? p0 = some v0 ∧ W.cell? p1 = some v1 ∧ W.cell? p2 = some v2 ∧ W.cell? p3 = some v3) :
    w1.cell? p0 = some v0 ∧ w1.cell? p1 = some v1 ∧ w1.cell? p2 = some v2 ∧ w1.cell? p3 = some v3 := ⟨hk.cell h.1, hk.cell h.2.1, hk.cell h.2.2.1, hk.cell h.2.2.2⟩

abbrev hx (q r : Int) : Value := .agg #[.int .i64 q, .int .i64 r]
def okC (n : Int) : Bool := decide (-40 ≤ n) && decide (n ≤ 40)
def okH (q r : Int) : Bool := okC q && okC r

theorem okC_true {n : Int} (h : okC n = true) : -40 ≤ n ∧ n ≤ 40 := by simpa [okC] using h
theorem okC_mk {n : Int} (h : -40 ≤ n) (h' : n ≤ 40) : okC n = true := by simp [okC, h, h']
theorem okC_lo {n : Int} (h : ¬ -40 ≤ n) : okC n = false := by
  have h' : decide (-40 ≤ n) = false := by simpa using h
  simp only [okC, h', Bool.false_and]
theorem okC_hi {n : Int} (h : ¬ n ≤ 40) : okC n = false := by
  have h' : decide (n ≤ 40) = false := by simpa using h
  simp only [okC, h', Bool.and_false]
theorem okH_true {q r : Int} (h : okH q r = true) : -40 ≤ q ∧ q ≤ 40 ∧ -40 ≤ r ∧ r ≤ 40 := by
  simp only [okH, Bool.and_eq_true] at h
  exact ⟨(okC_true h.1).1, (okC_true h.1).2, (okC_true h.2).1, (okC_true h.2).2⟩
theorem okH_mk {q r : Int} (a : -40 ≤ q) (b : q ≤ 40) (c : -40 ≤ r) (d : r ≤ 40) : okH q r = true := by simp [okH, okC, a, b, c, d]

theorem ret_bool {a b : Bool} (h : a = b) : Ending.returned (.bool a) = .returned (.bool b) := by rw [h]
theorem ret_int {a b : Int} (h : a = b) : Ending.returned (.int .i64 a) = .returned (.int .i64 b) := by rw [h]

theorem l1In_any (n : Int) (w : World) :
    Calls Tryz.prog 59 #[.int .i64 n, .int .i64 (-40), .int .i64 40] w fun e w' => e = .returned (.bool (okC n)) ∧ w = w' := by
  by_cases h1 : -40 ≤ n
  · by_cases h2 : n ≤ 40
    · go_enter Tryz.func59, Tryz.ntmps59
      go_wp2
      go_ret
      exact ⟨ret_bool (okC_mk h1 h2).symm, rfl⟩
    · go_enter Tryz.func59, Tryz.ntmps59
      go_wp2
      go_ret
      exact ⟨ret_bool (okC_hi (by omega)).symm, rfl⟩
  · go_enter Tryz.func59, Tryz.ntmps59
    go_wp2
    go_ret
    exact ⟨ret_bool (okC_lo (by omega)).symm, rfl⟩


end Go.Proofs.YtmolpkjdjkhnpaaGreatDoor

/-
  Rules as plain data: terrains, kinds, names, and when they are valid, in the program's order and in the reference's. No program is looked into.
-/
namespace Go.Proofs.YtmolpkjdjkhnpaaGreatDoor
open Go.RowKit

structure Ter where
  name : ByteArray
  cost : List Int
  shift : Int
  height : Int
  blocks : Bool
structure Knd where
  name : ByteArray
  str : Int
  mov : Int
  stp : Int
  zone : Bool
  view : Int
structure Rul where
  ters : List Ter
  knds : List Knd
  stack : Int
  river : Int
  road : Int
  supply : Int
  turns : Int

def spB (lo hi n : Int) : Bool := decide (lo ≤ n) && decide (n ≤ hi)
def lowB (c : UInt8) : Bool := decide (97 ≤ (c.toNat : Int)) && decide ((c.toNat : Int) ≤ 122)
def lowFrom (l : List UInt8) : Bool := l.all lowB
def nameOk (s : ByteArray) : Bool := spB 1 8 s.size && lowFrom s.data.toList

/-- For each number below n. -/
def allN (n : Nat) (f : Nat → Bool) : Bool := (List.range n).all f
theorem allN_mk {n : Nat} {f : Nat → Bool} (h : ∀ j, j < n → f j = true) : allN n f = true := by
  unfold allN
  rw [List.all_eq_true]
  intro x hx
  exact h x (List.mem_range.1 hx)
theorem allN_no {n : Nat} {f : Nat → Bool} {k : Nat} (hk : k < n) (h : f k = false) : allN n f = false := by
  unfold allN
  rw [List.all_eq_false]
  exact ⟨k, List.mem_range.2 hk, by simp [h]⟩
theorem allN_at {n : Nat} {f : Nat → Bool} (h : allN n f = true) {j : Nat} (hj : j < n) : f j = true := by
  unfold allN at h
  rw [List.all_eq_true] at h
  exact h j (List.mem_range.2 hj)
theorem allN_iff {n : Nat} {f : Nat → Bool} : allN n f = true ↔ ∀ j, j < n → f j = true := ⟨fun h _ hj => allN_at h hj, allN_mk⟩

def hasS (l : List ByteArray) (x : ByteArray) : Bool := decide (0 ≤ Lib.idxOfS l x)
theorem hasS_iff (l : List ByteArray) (x : ByteArray) : hasS l x = true ↔ x ∈ l := by
  unfold hasS
  rw [decide_eq_true_iff]
  exact Lib.idxOfS_nonneg_iff l x
theorem hasS_no {l : List ByteArray} {x : ByteArray} (h : x ∉ l) : hasS l x = false := by
  cases e : hasS l x
  · rfl
  · exact absurd ((hasS_iff l x).1 e) h
def nameAt (l : List ByteArray) (k : Nat) : Bool := nameOk (l.getD k ByteArray.empty) && !hasS (l.take k) (l.getD k ByteArray.empty)
/-- All names are valid and differ. -/
def namesOk (l : List ByteArray) : Bool := allN l.length (nameAt l)

def numT (nk : Nat) (t : Ter) : Bool := decide (t.cost.length = nk) && (t.cost.all (spB 0 9) && (spB (-3) 3 t.shift && spB 0 3 t.height))
def numK (k : Knd) : Bool := spB 1 9 k.str && (spB 0 9 k.mov && (spB 1 4 k.stp && spB 0 4 k.view))
def limB (a b c d e : Int) : Bool := spB 1 4 a && (spB 0 9 b && (spB 1 9 c && (spB 0 20 d && spB 1 30 e)))
def tNames (l : List Ter) : List ByteArray := l.map (·.name)
def kNames (l : List Knd) : List ByteArray := l.map (·.name)
/-- Valid rules, as the program asks. -/
def rulOk (r : Rul) : Bool :=
  (spB 1 6 r.ters.length && (spB 1 4 r.knds.length && limB r.stack r.river r.road r.supply r.turns)) &&
    (r.ters.all (numT r.knds.length) && (r.knds.all numK && (namesOk (tNames r.ters) && namesOk (kNames r.knds))))

/-- The place of a name, or -1. -/
def idxS (l : List ByteArray) (x : ByteArray) : Int := Lib.idxOfS l x
/-- A terrain at its place, as the reference asks. -/
def terAt (l : List Ter) (nk : Nat) (i : Nat) (t : Ter) : Bool :=
  nameOk t.name && (decide (idxS (tNames l) t.name = i) && (decide (t.cost.length = nk) && (t.cost.all (spB 0 9) && (spB (-3) 3 t.shift && spB 0 3 t.height))))
def kndAt (l : List Knd) (i : Nat) (k : Knd) : Bool :=
  nameOk k.name && (decide (idxS (kNames l) k.name = i) && (spB 1 9 k.str && (spB 0 9 k.mov && (spB 1 4 k.stp && spB 0 4 k.view))))
def terF (l : List Ter) (nk : Nat) (i : Nat) : Bool := match l[i]? with | some t => terAt l nk i t | none => true
def kndF (l : List Knd) (i : Nat) : Bool := match l[i]? with | some k => kndAt l i k | none => true
theorem terF_at {l : List Ter} {nk i : Nat} {t : Ter} (h : l[i]? = some t) : terF l nk i = terAt l nk i t := by unfold terF; rw [h]
theorem kndF_at {l : List Knd} {i : Nat} {k : Knd} (h : l[i]? = some k) : kndF l i = kndAt l i k := by unfold kndF; rw [h]

theorem firstOf (f : Nat → ByteArray) (x : ByteArray) : ∀ j, f j = x → ∃ m, m ≤ j ∧ f m = x ∧ ∀ i, i < m → f i ≠ x := by
  intro j
  induction j using Nat.strongRecOn with
  | _ j ih =>
    intro h
    by_cases hx : ∃ i, i < j ∧ f i = x
    · obtain ⟨i, hi, e⟩ := hx
      obtain ⟨m, hm, em, hf⟩ := ih i hi e
      exact ⟨m, by omega, em, hf⟩
    · exact ⟨j, Nat.le_refl _, h, fun i hi e => hx ⟨i, hi, e⟩⟩
theorem idxS_first {l : List ByteArray} {k : Nat} (hk : k < l.length) (hn : ∀ j, j < k → l.getD j ByteArray.empty ≠ l.getD k ByteArray.empty) : idxS l (l.getD k ByteArray.empty) = k := by
  have := Lib.idxOfS_hit l l.length k (l.getD k ByteArray.empty) hk (Nat.le_refl _) rfl hn
  rwa [List.take_length] at this
theorem idxS_eq {l : List ByteArray} {k : Nat} (hk : k < l.length) : decide (idxS l (l.getD k ByteArray.empty) = k) = !hasS (l.take k) (l.getD k ByteArray.empty) := by
  have hgd : ∀ j, j < l.length → l[j]? = some (l.getD j ByteArray.empty) := fun j hj => by simp [List.getD, List.getElem?_eq_getElem hj]
  by_cases hm : l.getD k ByteArray.empty ∈ l.take k
  · rw [(hasS_iff _ _).2 hm]
    obtain ⟨j, hj, e⟩ := List.mem_iff_getElem.1 hm
    have hjk : j < k := by simp at hj; omega
    have ej : l.getD j ByteArray.empty = l.getD k ByteArray.empty := by
      rw [← e]
      simp [List.getD, List.getElem?_eq_getElem (show j < l.length by omega)]
    obtain ⟨m, hmj, em, hf⟩ := firstOf (fun j => l.getD j ByteArray.empty) _ j ej
    have em : l.getD m ByteArray.empty = l.getD k ByteArray.empty := em
    have hf : ∀ i, i < m → l.getD i ByteArray.empty ≠ l.getD k ByteArray.empty := hf
    have h1 : idxS l (l.getD m ByteArray.empty) = m := idxS_first (by omega) (fun j hj => by rw [em]; exact hf j hj)
    rw [em] at h1
    rw [h1]
    have : ¬ ((m : Int) = k) := by omega
    simp [this]
  · rw [hasS_no hm]
    have := idxS_first hk (fun j hj e => hm (by
      rw [← e]
      have : (l.take k)[j]? = some (l.getD j ByteArray.empty) := by rw [List.getElem?_take, if_pos hj]; exact hgd j (by omega)
      exact List.mem_of_getElem? this))
    rw [decide_eq_true this]
    rfl

theorem tName_at {l : List Ter} {i : Nat} {t : Ter} (h : l[i]? = some t) : (tNames l).getD i ByteArray.empty = t.name := by simp [tNames, List.getD, h]
theorem kName_at {l : List Knd} {i : Nat} {t : Knd} (h : l[i]? = some t) : (kNames l).getD i ByteArray.empty = t.name := by simp [kNames, List.getD, h]
theorem lt_of_at {α : Type} {l : List α} {i : Nat} {t : α} (h : l[i]? = some t) : i < l.length := (List.getElem?_eq_some_iff.1 h).1
theorem terF_parts {l : List Ter} {nk i : Nat} {t : Ter} (h : l[i]? = some t) : terF l nk i = (nameAt (tNames l) i && numT nk t) := by
  have e := idxS_eq (l := tNames l) (k := i) (by simpa [tNames] using lt_of_at h)
  rw [tName_at h] at e
  rw [terF_at h]
  unfold terAt nameAt numT
  rw [tName_at h, e, Bool.and_assoc]
theorem kndF_parts {l : List Knd} {i : Nat} {t : Knd} (h : l[i]? = some t) : kndF l i = (nameAt (kNames l) i && numK t) := by
  have e := idxS_eq (l := kNames l) (k := i) (by simpa [kNames] using lt_of_at h)
  rw [kName_at h] at e
  rw [kndF_at h]
  unfold kndAt nameAt numK
  rw [kName_at h, e, Bool.and_assoc]
theorem terF_all {l : List Ter} {nk : Nat} : allN l.length (terF l nk) = true ↔ l.all (numT nk) = true ∧ namesOk (tNames l) = true := by
  unfold namesOk
  rw [allN_iff, allN_iff, List.all_eq_true]
  have hlen : (tNames l).length = l.length := by simp [tNames]
  rw [hlen]
  constructor
  · intro h
    refine ⟨fun t ht => ?_, fun j hj => ?_⟩
    · obtain ⟨i, hi, rfl⟩ := List.mem_iff_getElem.1 ht
      have := h i hi
      rw [terF_parts (List.getElem?_eq_getElem hi), Bool.and_eq_true] at this
      exact this.2
    · have := h j hj
      rw [terF_parts (List.getElem?_eq_getElem hj), Bool.and_eq_true] at this
      exact this.1
  · rintro ⟨h1, h2⟩ j hj
    rw [terF_parts (List.getElem?_eq_getElem hj), Bool.and_eq_true]
    exact ⟨h2 j hj, h1 _ (List.getElem_mem hj)⟩
theorem kndF_all {l : List Knd} : allN l.length (kndF l) = true ↔ l.all numK = true ∧ namesOk (kNames l) = true := by
  unfold namesOk
  rw [allN_iff, allN_iff, List.all_eq_true]
  have hlen : (kNames l).length = l.length := by simp [kNames]
  rw [hlen]
  constructor
  · intro h
    refine ⟨fun t ht => ?_, fun j hj => ?_⟩
    · obtain ⟨i, hi, rfl⟩ := List.mem_iff_getElem.1 ht
      have := h i hi
      rw [kndF_parts (List.getElem?_eq_getElem hi), Bool.and_eq_true] at this
      exact this.2
    · have := h j hj
      rw [kndF_parts (List.getElem?_eq_getElem hj), Bool.and_eq_true] at this
      exact this.1
  · rintro ⟨h1, h2⟩ j hj
    rw [kndF_parts (List.getElem?_eq_getElem hj), Bool.and_eq_true]
    exact ⟨h2 j hj, h1 _ (List.getElem_mem hj)⟩

/-- Valid rules, as the reference asks. -/
def rulS (r : Rul) : Bool :=
  (spB 1 6 r.ters.length && spB 1 4 r.knds.length) && (allN r.ters.length (terF r.ters r.knds.length) && (allN r.knds.length (kndF r.knds) && limB r.stack r.river r.road r.supply r.turns))
theorem rulS_eq (r : Rul) : rulS r = rulOk r := by
  rw [Bool.eq_iff_iff]
  unfold rulS rulOk
  simp only [Bool.and_eq_true, terF_all, kndF_all]
  constructor
  · rintro ⟨⟨a, b⟩, ⟨c, d⟩, ⟨e, f⟩, g⟩
    exact ⟨⟨a, b, g⟩, c, e, d, f⟩
  · rintro ⟨⟨a, b, g⟩, c, e, d, f⟩
    exact ⟨⟨a, b⟩, ⟨c, d⟩, ⟨e, f⟩, g⟩

end Go.Proofs.YtmolpkjdjkhnpaaGreatDoor

/-
  The six directions as plain functions on integers.
-/
namespace Go.Proofs.YtmolpkjdjkhnpaaGreatDoor
open Go.RowKit

def dirQ (d : Int) : Int := if d = 0 then 1 else if d = 1 then 1 else if d = 2 then 0 else if d = 3 then -1 else if d = 4 then -1 else 0
def dirR (d : Int) : Int := if d = 0 then 0 else if d = 1 then -1 else if d = 2 then -1 else if d = 3 then 0 else if d = 4 then 1 else 1
theorem dir_bd (d : Int) : -1 ≤ dirQ d ∧ dirQ d ≤ 1 ∧ -1 ≤ dirR d ∧ dirR d ≤ 1 := by
  unfold dirQ dirR
  repeat' split
  all_goals omega

theorem six {d : Int} (h0 : 0 ≤ d) (h5 : d ≤ 5) : d = 0 ∨ d = 1 ∨ d = 2 ∨ d = 3 ∨ d = 4 ∨ d = 5 := by omega

end Go.Proofs.YtmolpkjdjkhnpaaGreatDoor

/-
  More small functions on hexes: differences, shifts, valid or zero, comparing. They return what plain functions on integers say, and change nothing that was there.
-/
namespace Go.Proofs.YtmolpkjdjkhnpaaGreatDoor
open Go.RowKit

def vI (b : Bool) (x : Int) : Int := if b = true then x else 0
abbrev ib (b : Bool) (x : Int) : Value := .tuple #[.int .i64 (vI b x), .bool b]
theorem vI_true (x : Int) : vI true x = x := rfl
theorem vI_false (x : Int) : vI false x = 0 := rfl
abbrev hb3 (b : Bool) (q r : Int) : Value := .tuple #[hx (vI b q) (vI b r), .bool b]

theorem shifted_any (q r dq dr : Int) (w : World) (h1 : -1000 ≤ q) (h2 : q ≤ 1000) (h3 : -1000 ≤ r) (h4 : r ≤ 1000) (h5 : -1000 ≤ dq) (h6 : dq ≤ 1000) (h7 : -1000 ≤ dr) (h8 : dr ≤ 1000) :
    Calls Tryz.prog 102 #[hx q r, hx dq dr] w fun e w' => e = .returned (hx (q + dq) (r + dr)) ∧ Kp w w' := by
  go_enter Tryz.func102, Tryz.ntmps102
  go_wp2
  exact bodyPost_ret (v := hx (q + dq) (r + dr)) (by simp [results, Tryz.results102, go_sem]) rfl ⟨rfl, (((Kp.refl _).alloc _).alloc _).alloc _⟩

theorem l1In_gen (n lo hi : Int) (w : World) :
    Calls Tryz.prog 59 #[.int .i64 n, .int .i64 lo, .int .i64 hi] w fun e w' => e = .returned (.bool (decide (lo ≤ n) && decide (n ≤ hi))) ∧ w = w' := by
  by_cases h1 : lo ≤ n
  · by_cases h2 : n ≤ hi
    · go_enter Tryz.func59, Tryz.ntmps59
      go_wp2
      go_ret
      exact ⟨ret_bool (by simp [h1, h2]), rfl⟩
    · have d2 : decide (n ≤ hi) = false := by simpa using h2
      go_enter Tryz.func59, Tryz.ntmps59
      go_wp2
      go_ret
      exact ⟨ret_bool (by simp), rfl⟩
  · have d1 : decide (lo ≤ n) = false := by simpa using h1
    go_enter Tryz.func59, Tryz.ntmps59
    go_wp2
    go_ret
    exact ⟨ret_bool (by simp), rfl⟩

theorem hb3_eq {b b' : Bool} {q r q' r' : Int} (h : b = b') (hq : q = q') (hr : r = r') : hb3 b q r = hb3 b' q' r' := by rw [h, hq, hr]

end Go.Proofs.YtmolpkjdjkhnpaaGreatDoor

/-
  Small facts on cells behind stores into another block. No program is looked into.
-/
namespace Go.Proofs.YtmolpkjdjkhnpaaGreatDoor
open Go.RowKit

theorem far2 {w : World} {p : Addr} {v : Value} (h : w.cell? p = some v) {g i j : Nat} {X Y : Value} (hne : p.block ≠ g) : ((w.setCell ⟨g, i, none⟩ X).setCell ⟨g, j, none⟩ Y).cell? p = some v := by
  rw [World.cell?_setCell_other _ _ _ _ (fun e => hne (by rw [← e])), World.cell?_setCell_other _ _ _ _ (fun e => hne (by rw [← e])), h]
theorem far_four {w : World} {b0 b1 o0 o1 o2 o3 : Nat} {v0 v1 v2 v3 : Value} {g i j : Nat} {X Y : Value} (hne : b0 ≠ g ∧ b1 ≠ g)
    (h : w.cell? ⟨b0, o0, none⟩ = some v0 ∧ w.cell? ⟨b0, o1, none⟩ = some v1 ∧ w.cell? ⟨b1, o2, none⟩ = some v2 ∧ w.cell? ⟨b1, o3, none⟩ = some v3) :
    ((w.setCell ⟨g, i, none⟩ X).setCell ⟨g, j, none⟩ Y).cell? ⟨b0, o0, none⟩ = some v0 ∧ ((w.setCell ⟨g, i, none⟩ X).setCell ⟨g, j, none⟩ Y).cell? ⟨b0, o1, none⟩ = some v1 ∧ ((w.setCell ⟨g, i, none⟩ X).setCell ⟨g, j, none⟩ Y).cell? ⟨b1, o2, none⟩ = some v2 ∧ ((w.setCell ⟨g, i, none⟩ X).setCell ⟨g, j, none⟩ Y).cell? ⟨b1, o3, none⟩ = some v3 :=
  ⟨far2 h.1 hne.1, far2 h.2.1 hne.1, far2 h.2.2.1 hne.2, far2 h.2.2.2 hne.2⟩
theorem far_two {w : World} {b0 o0 o1 : Nat} {v0 v1 : Value} {g i j : Nat} {X Y : Value} (hne : b0 ≠ g) (h : w.cell? ⟨b0, o0, none⟩ = some v0 ∧ w.cell? ⟨b0, o1, none⟩ = some v1) :
    ((w.setCell ⟨g, i, none⟩ X).setCell ⟨g, j, none⟩ Y).cell? ⟨b0, o0, none⟩ = some v0 ∧ ((w.setCell ⟨g, i, none⟩ X).setCell ⟨g, j, none⟩ Y).cell? ⟨b0, o1, none⟩ = some v1 :=
  ⟨far2 h.1 hne, far2 h.2 hne⟩

theorem cell_lt {w : World} {b o : Nat} {v : Value} (h : w.cell? ⟨b, o, none⟩ = some v) : b < w.heap.size := by
  rcases Nat.lt_or_ge b w.heap.size with hlt | hge
  · exact hlt
  · simp [World.cell?, Array.getElem?_eq_none hge] at h
theorem Kp.liv {W w1 : World} (hk : Kp W w1) {p : Addr} {v : Value} (h : W.cell? p = some v ∧ W.frozen? p = false) : w1.cell? p = some v ∧ w1.frozen? p = false := by
  have hlt : p.block < W.heap.size := by
    rcases Nat.lt_or_ge p.block W.heap.size with hlt | hge
    · exact hlt
    · have := h.1
      simp [World.cell?, Array.getElem?_eq_none hge] at this
  exact ⟨hk.cell h.1, (Below.frozen hk hlt).trans h.2⟩

end Go.Proofs.YtmolpkjdjkhnpaaGreatDoor

/-
  Slices of hexes as lists of pairs of integers; comparing two that hold the same list, marking one's cells and finding the marks again. Nothing else is changed.
-/
namespace Go.Proofs.YtmolpkjdjkhnpaaGreatDoor
open Go.RowKit

theorem Kp.grown {a w w' : World} {row : Option Nat} (h : Kp a w) (hg : w.grownBy w' row) (hr : ∀ k, row = some k → a.heap.size ≤ k) : Kp a w' := Below.grown h hg (Below.size h) hr

/-- The slice v reads as the list l of hexes. -/
def RdH (w : World) (v : Value) (l : List (Int × Int)) : Prop :=
  ∃ A c, v = .slice A l.length c ∧ (0 < l.length → ∃ g off, A = some ⟨g, off, none⟩ ∧ ∀ i x, l[i]? = some x → w.cell? ⟨g, off + i * 2, none⟩ = some (.int .i64 x.1) ∧ w.cell? ⟨g, off + i * 2 + 1, none⟩ = some (.int .i64 x.2))
theorem RdH.keep {w w' : World} {v : Value} {l : List (Int × Int)} (h : RdH w v l) (hk : Kp w w') : RdH w' v l := by
  obtain ⟨A, c, rfl, h⟩ := h
  refine ⟨A, c, rfl, fun h0 => ?_⟩
  obtain ⟨g, off, rfl, hc⟩ := h h0
  exact ⟨g, off, rfl, fun i x hx => ⟨hk.cell (hc i x hx).1, hk.cell (hc i x hx).2⟩⟩

/-- The cells of a list of hexes. -/
def cellsH : List (Int × Int) → List Value
  | [] => []
  | x :: l => .int .i64 x.1 :: .int .i64 x.2 :: cellsH l
theorem cellsH_length : ∀ l, (cellsH l).length = l.length * 2
  | [] => rfl
  | x :: l => by simp only [cellsH, List.length_cons, cellsH_length l]; omega
theorem cellsH_append : ∀ l m, cellsH (l ++ m) = cellsH l ++ cellsH m
  | [], _ => rfl
  | x :: l, m => by simp only [cellsH, List.cons_append, cellsH_append l m]
theorem cellsH_at : ∀ (l : List (Int × Int)) (i : Nat) (x : Int × Int), l[i]? = some x → (cellsH l)[i * 2]? = some (.int .i64 x.1) ∧ (cellsH l)[i * 2 + 1]? = some (.int .i64 x.2)
  | [], _, _, h => by simp at h
  | y :: l, 0, x, h => by
    simp only [List.getElem?_cons_zero, Option.some.injEq] at h
    subst h
    exact ⟨rfl, rfl⟩
  | y :: l, i + 1, x, h => by
    have := cellsH_at l i x (by simpa using h)
    have e1 : (i + 1) * 2 = i * 2 + 1 + 1 := by omega
    rw [e1]
    exact ⟨by simpa [cellsH] using this.1, by simpa [cellsH] using this.2⟩

/-- The slice v owns the list l of hexes, in a block from base on. -/
def OwnH (w : World) (base : Nat) (v : Value) (l : List (Int × Int)) : Prop := w.ownsRow base 92 2 v l.length (cellsH l)
theorem OwnH.rd {w : World} {base : Nat} {v : Value} {l : List (Int × Int)} (h : OwnH w base v l) : RdH w v l := by
  rcases h.2 with ⟨rfl, hn⟩ | ⟨g, cap, cur, rfl, hb, hg, hc, hm, hs, ht⟩
  · exact ⟨none, 0, by rw [hn], fun h0 => by omega⟩
  · refine ⟨_, _, rfl, fun _ => ⟨g, 0, rfl, fun i x hx => ?_⟩⟩
    have hi : i < l.length := (List.getElem?_eq_some_iff.1 hx).1
    have e := cellsH_at l i x hx
    rw [Nat.zero_add]
    exact ⟨(World.ownsRow.cellAt h (i * 2) (by omega)).trans e.1, (World.ownsRow.cellAt h (i * 2 + 1) (by omega)).trans e.2⟩
theorem ownsRow_keep {w w' : World} {base : Nat} {e : TypeId} {size : Nat} {v : Value} {n : Nat} {xs : List Value} (h : w.ownsRow base e size v n xs) (hk : Kp w w') : w'.ownsRow base e size v n xs :=
  h.kept (row := none) ⟨hk.os, hk.tape, hk.output, hk.size, fun k hlt _ => hk.block k hlt⟩ (by cases hv : v.ownBlock <;> simp)
theorem OwnH.keep {w w' : World} {base : Nat} {v : Value} {l : List (Int × Int)} (h : OwnH w base v l) (hk : Kp w w') : OwnH w' base v l := ownsRow_keep h hk

end Go.Proofs.YtmolpkjdjkhnpaaGreatDoor

/-
  Marking the cells of a slice of hexes that the call owns with k, k+1, .., and finding the marks again.
-/
namespace Go.Proofs.YtmolpkjdjkhnpaaGreatDoor
open Go.RowKit

def marks (k0 : Int) (m : Nat) : List Value := (List.range m).map fun j : Nat => .int .i64 (k0 + (j : Int))
theorem marks_at (k0 : Int) (m j : Nat) (h : j < m) : (marks k0 m)[j]? = some (.int .i64 (k0 + j)) := by simp [marks, h]
theorem marks_length (k0 : Int) (m : Nat) : (marks k0 m).length = m := by simp [marks]

theorem marks_step (k0 : Int) (xs : List Value) (t n : Nat) (hl : xs.length = n * 2) (ht : t < n) :
    ((marks k0 (t * 2) ++ xs.drop (t * 2)).set (t * 2) (.int .i64 (k0 + (t * 2 : Nat)))).set (t * 2 + 1) (.int .i64 (k0 + (t * 2 + 1 : Nat))) = marks k0 ((t + 1) * 2) ++ xs.drop ((t + 1) * 2) := by
  apply List.ext_getElem?
  intro j
  rw [List.getElem?_set, List.getElem?_set]
  simp only [List.length_set, List.length_append, marks_length, List.length_drop]
  by_cases h1 : t * 2 + 1 = j
  · subst h1
    rw [if_pos rfl, if_pos (by omega), List.getElem?_append_left (by rw [marks_length]; omega), marks_at _ _ _ (by omega)]
  · rw [if_neg h1]
    by_cases h2 : t * 2 = j
    · subst h2
      rw [if_pos rfl, if_pos (by omega), List.getElem?_append_left (by rw [marks_length]; omega), marks_at _ _ _ (by omega)]
    · rw [if_neg h2]
      by_cases h3 : j < t * 2
      · rw [List.getElem?_append_left (by rw [marks_length]; omega), List.getElem?_append_left (by rw [marks_length]; omega), marks_at _ _ _ h3, marks_at _ _ _ (by omega)]
      · rw [List.getElem?_append_right (by rw [marks_length]; omega), List.getElem?_append_right (by rw [marks_length]; omega), marks_length, marks_length, List.getElem?_drop, List.getElem?_drop]
        congr 1
        omega

end Go.Proofs.YtmolpkjdjkhnpaaGreatDoor

/-
  What a function says that returns a new list of hexes and true, or none and false; small facts on slices of hexes that a call owns.
-/
namespace Go.Proofs.YtmolpkjdjkhnpaaGreatDoor
open Go.RowKit

def allOk (l : List (Int × Int)) : Bool := l.all fun x => okH x.1 x.2
theorem allOk_false {l : List (Int × Int)} {i : Nat} {x : Int × Int} (hx : l[i]? = some x) (h : okH x.1 x.2 = false) : allOk l = false := by
  unfold allOk
  rw [List.all_eq_false]
  exact ⟨x, List.mem_of_getElem? hx, by simp [h]⟩
theorem allOk_true {l : List (Int × Int)} (h : ∀ (i : Nat) x, l[i]? = some x → okH x.1 x.2 = true) : allOk l = true := by
  unfold allOk
  rw [List.all_eq_true]
  intro x hx
  obtain ⟨i, hi, rfl⟩ := List.mem_iff_getElem.1 hx
  exact h i _ (List.getElem?_eq_getElem hi)

/-- A new list of hexes and true, or none and false. -/
def ListPost (ok : Bool) (l : List (Int × Int)) (w : World) (e : Ending) (w' : World) : Prop :=
  ∃ v, e = .returned (.tuple #[v, .bool ok]) ∧ OwnH w' w.heap.size v (if ok = true then l else []) ∧ Kp w w'
theorem OwnH.nil (w : World) (base : Nat) : OwnH w base (.slice none 0 0) [] := World.ownsRow_nil w base _ 2
theorem ListPost.no {l : List (Int × Int)} {w w' : World} (hk : Kp w w') : ListPost false l w (.returned (.tuple #[.slice none 0 0, .bool false])) w' := ⟨_, rfl, OwnH.nil _ _, hk⟩

theorem grown_set (w : World) (g j : Nat) (u : Value) : w.grownBy (w.setCell ⟨g, j, none⟩ u) (some g) :=
  ⟨rfl, rfl, rfl, by simp, fun k _ hk => heap_setCell_other w ⟨g, j, none⟩ k u (fun e => hk (by simp [e]))⟩
theorem OwnH.far {w : World} {base : Nat} {v : Value} {l : List (Int × Int)} (h : OwnH w base v l) {g j : Nat} (hne : v.ownBlock ≠ some g) (u : Value) : OwnH (w.setCell ⟨g, j, none⟩ u) base v l :=
  World.ownsRow.kept h (grown_set w g j u) (.inr hne)
theorem OwnH.snoc {w : World} {base : Nat} {v : Value} {l : List (Int × Int)} {x : Int × Int} (h : w.ownsRow base 92 2 v (l.length + 1) (cellsH l ++ [.int .i64 x.1, .int .i64 x.2])) : OwnH w base v (l ++ [x]) := by
  unfold OwnH
  rw [cellsH_append, List.length_append]
  exact h
theorem OwnH.block {w : World} {base : Nat} {v : Value} {l : List (Int × Int)} (h : OwnH w base v l) (g : Nat) (hg : w.heap.size ≤ g) : v.ownBlock ≠ some g := fun e => by
  have := (World.ownsRow.lt h g e).2
  omega
theorem OwnH.from_ {w : World} {base : Nat} {v : Value} {l : List (Int × Int)} (h : OwnH w base v l) : ∀ k, v.ownBlock = some k → base ≤ k := fun k e => (World.ownsRow.lt h k e).1
theorem grown_frozen {w w' : World} {row : Option Nat} (hg : w.grownBy w' row) {b o : Nat} {v : Value} (h : w.cell? ⟨b, o, none⟩ = some v) (hne : some b ≠ row) (hf : w.frozen? ⟨b, o, none⟩ = false) : w'.frozen? ⟨b, o, none⟩ = false :=
  (World.frozen?_of_block (hg.block b (cell_lt h) hne)).trans hf

theorem infoHex : (Tryz.prog.info? 92).map (fun i => (i.zero, i.size, i.bytes)) = some (some (hx 0 0), 2, 16) := by kernel_rfl
theorem two_new (w : World) (x y : Value) (t : TypeId) : ∀ j u, [x, y][j]? = some u → (w.alloc (.cells #[x, y] t)).cell? ((⟨w.heap.size, 0, none⟩ : Addr).add j) = some u := by
  intro j u hj
  match j, hj with
  | 0, hj => simp at hj; subst hj; simp [Addr.add]
  | 1, hj => simp at hj; subst hj; simp [Addr.add]

end Go.Proofs.YtmolpkjdjkhnpaaGreatDoor

/-
  Slices of integers as lists: copying one, comparing two that hold the same list, marking one that the call owns.
-/
namespace Go.Proofs.YtmolpkjdjkhnpaaGreatDoor
open Go.RowKit

/-- The slice v reads as the list l of integers. -/
def RdI (w : World) (v : Value) (l : List Int) : Prop :=
  ∃ A c, v = .slice A l.length c ∧ (0 < l.length → ∃ g off, A = some ⟨g, off, none⟩ ∧ ∀ i x, l[i]? = some x → w.cell? ⟨g, off + i, none⟩ = some (.int .i64 x))
theorem RdI.keep {w w' : World} {v : Value} {l : List Int} (h : RdI w v l) (hk : Kp w w') : RdI w' v l := by
  obtain ⟨A, c, rfl, h⟩ := h
  refine ⟨A, c, rfl, fun h0 => ?_⟩
  obtain ⟨g, off, rfl, hc⟩ := h h0
  exact ⟨g, off, rfl, fun i x hx => hk.cell (hc i x hx)⟩
def cellsI (l : List Int) : List Value := l.map fun x => .int .i64 x
def OwnI (w : World) (base : Nat) (v : Value) (l : List Int) : Prop := w.ownsRow base 3 1 v l.length (cellsI l)
theorem OwnI.rd {w : World} {base : Nat} {v : Value} {l : List Int} (h : OwnI w base v l) : RdI w v l := by
  rcases h.2 with ⟨rfl, hn⟩ | ⟨g, cap, cur, rfl, hb, hg, hc, hm, hs, ht⟩
  · exact ⟨none, 0, by rw [hn], fun h0 => by omega⟩
  · refine ⟨_, _, rfl, fun _ => ⟨g, 0, rfl, fun i x hx => ?_⟩⟩
    have hi : i < l.length := (List.getElem?_eq_some_iff.1 hx).1
    rw [Nat.zero_add]
    exact (World.ownsRow.cellAt h i (by omega)).trans (by simp [cellsI, hx])
theorem OwnI.keep {w w' : World} {base : Nat} {v : Value} {l : List Int} (h : OwnI w base v l) (hk : Kp w w') : OwnI w' base v l := ownsRow_keep h hk

theorem infoInt : (Tryz.prog.info? 3).map (fun i => (i.zero, i.size, i.bytes)) = some (some (.int .i64 0), 1, 8) := by kernel_rfl
theorem mkInts (n : Nat) (hn : n ≤ 1048576) (w : World) :
    (Instr.makeSlice 26 (.int .i64 (n : Int)) (.int .i64 (n : Int))).run Tryz.prog w = .ok (.slice (some ⟨w.heap.size, 0, none⟩) n n) (w.alloc (.cells (madeCells #[.int .i64 0] n) 3)) := by
  obtain ⟨i, hi, hz, hs, hb⟩ := info_parts infoInt
  have hr := run_make (P := Tryz.prog) w 26 3 i (.int .i64 0) Tryz.underlying26 hi hz .i64 .i64 (n : Int) (n : Int) (by omega) (Int.le_refl _) (by rw [hb]; omega) (by omega)
  rw [hs, Int.toNat_natCast, Nat.mul_one] at hr
  exact hr

theorem toIntS_any (v : Value) (l : List Int) (w : World) (h : RdI w v l) (hl : l.length ≤ 1048576) :
    Calls Tryz.prog 39 #[v] w fun e w' => ∃ v', e = .returned v' ∧ OwnI w' w.heap.size v' l ∧ Kp w w' := by
  obtain ⟨A, c, rfl, h⟩ := h
  have HA := Lib.hid h
  clear h
  obtain ⟨n, hn⟩ : ∃ n, l.length = n := ⟨_, rfl⟩
  have HN := Lib.hid hn
  rw [hn] at hl ⊢
  rw [hn] at HA
  clear hn
  have hmk := fun w => mkInts n hl w
  have own0 : (w.alloc (.cells (madeCells #[.int .i64 0] n) 3)).ownsRow w.heap.size 3 1 (.slice (some ⟨w.heap.size, 0, none⟩) n n) n (madeCells #[.int .i64 0] n).toList :=
    World.ownsRow_lit w _ n (Nat.le_refl _) (by simp only [maxLen]; omega) (by rw [size_madeCells, Nat.mul_one])
  go_enter Tryz.func39, Tryz.ntmps39
  go_wp2_with fail
  go_loopw [4] (fun i wr => ∃ k : Nat, k ≤ n ∧ i = .int .i64 k ∧ (∃ ys, wr.ownsRow w.heap.size 3 1 (.slice (some ⟨w.heap.size, 0, none⟩) n n) n ys ∧ ∀ j x, j < k → l[j]? = some x → ys[j]? = some (.int .i64 x)) ∧ Kp w wr) (fun i _ => n - (intOf i).toNat)
  case atStart => exact ⟨0, by omega, rfl, ⟨_, own0, fun j x hj => absurd hj (by omega)⟩, (Kp.refl _).alloc _⟩
  case round =>
    clear own0
    obtain ⟨k, hk, rfl, ⟨ys, ho, hys⟩, kr⟩ := hrel
    have HY := Lib.hid hys
    clear hys
    by_cases hlt : k < n
    · have hlt' : (k : Int) < n := by omega
      obtain ⟨g, off, rfl, hc⟩ := HA.out (by omega)
      obtain ⟨x, hx⟩ : ∃ x, l[k]? = some x := ⟨l[k]'(by have := HN.out; omega), List.getElem?_eq_getElem _⟩
      have a0 := kr.cell (hc k x hx)
      have HX := Lib.hid hx
      have hlen : ys.length = n * 1 := ho.1
      obtain ⟨u0, hu0⟩ : ∃ u, wr.cell? ⟨w.heap.size, k, none⟩ = some u := ⟨_, (ho.cellAt k (by omega)).trans (List.getElem?_eq_getElem (by omega))⟩
      have f0 := ho.frozenAt k
      have HLen := Lib.hid hlen
      clear hc hx hlen
      go_wp2_with fail
      go_roundw
      case rel =>
        obtain ⟨o1, g1⟩ := ho.stored k (.int .i64 x)
        refine ⟨k + 1, by omega, by go_num, ⟨_, o1, fun j y hj hy => ?_⟩, kr.setCell (by simp) _⟩
        rw [List.getElem?_set]
        by_cases e : k = j
        · subst e
          rw [HX.out] at hy
          obtain rfl := Option.some.inj hy
          have := HLen.out
          rw [if_pos rfl, if_pos (by omega)]
        · rw [if_neg e]
          exact HY.out j y (by omega) hy
      case measure => simp [intOf]; omega
    · obtain rfl : k = n := by omega
      go_wp2_with fail
      go_ret
      have e : ys = cellsI l := by
        apply List.ext_getElem?
        intro j
        have hl1 : ys.length = k * 1 := ho.1
        have hl2 := HN.out
        by_cases hj : j < k
        · have hx : l[j]? = some (l[j]'(by omega)) := List.getElem?_eq_getElem _
          rw [HY.out j _ hj hx]
          simp [cellsI, hx]
        · rw [List.getElem?_eq_none (by omega), List.getElem?_eq_none (by simp [cellsI]; omega)]
      refine ⟨_, rfl, ?_, kr⟩
      unfold OwnI
      rw [HN.out, ← e]
      exact ho

theorem eqIntS_same (va vb : Value) (l : List Int) (w : World) (ha : RdI w va l) (hb : RdI w vb l) (hl : l.length ≤ 1048576) :
    Calls Tryz.prog 50 #[va, vb] w fun e w' => e = .returned (.bool true) ∧ Kp w w' := by
  obtain ⟨A, ca, rfl, ha⟩ := ha
  obtain ⟨B, cb, rfl, hb⟩ := hb
  have HA := Lib.hid ha
  have HB := Lib.hid hb
  clear ha hb
  generalize hn : l.length = n at *
  have HN := Lib.hid hn
  clear hn
  go_enter Tryz.func50, Tryz.ntmps50
  go_wp2_with fail
  go_loopw [5] (fun i wr => ∃ k : Nat, k ≤ n ∧ i = .int .i64 k ∧ Kp w wr) (fun i _ => n - (intOf i).toNat)
  case atStart => exact ⟨0, by omega, rfl, Kp.refl _⟩
  case round =>
    obtain ⟨k, hk, rfl, kr⟩ := hrel
    by_cases hlt : k < n
    · obtain ⟨ga, oa, rfl, ca'⟩ := HA.out (by omega)
      obtain ⟨gb, ob, rfl, cb'⟩ := HB.out (by omega)
      obtain ⟨x, hx⟩ : ∃ x, l[k]? = some x := ⟨l[k]'(by have := HN.out; omega), List.getElem?_eq_getElem _⟩
      have a0 := kr.cell (ca' k x hx)
      have b0 := kr.cell (cb' k x hx)
      clear ca' cb' hx
      have hlt' : (k : Int) < n := by omega
      go_wp2_with fail
      go_quiet (fail)
      go_wp2_with fail
      go_roundw
      case rel => exact ⟨k + 1, by omega, by go_num, kr.drewN _⟩
      case measure => simp [intOf]; omega
    · obtain rfl : k = n := by omega
      go_wp2_with fail
      go_ret
      exact ⟨rfl, kr⟩

theorem markIntS_any (v : Value) (n base : Nat) (xs : List Value) (w : World) (hn : n ≤ 1048576) (hown : w.ownsRow base 3 1 v n xs) :
    Calls Tryz.prog 53 #[v, .int .i64 1] w fun e w' => e = .returned (.int .i64 (1 + n)) ∧ w.grownBy w' v.ownBlock := by
  rcases hown.2 with ⟨rfl, rfl⟩ | ⟨g, cap, cur, rfl, _⟩
  · go_enter Tryz.func53, Tryz.ntmps53
    go_wp2_with fail
    go_loop [1, 5] (fun k i => k = .int .i64 1 ∧ i = .int .i64 0) (fun _ _ => 0)
    case atStart => exact ⟨rfl, rfl⟩
    case round =>
      obtain ⟨rfl, rfl⟩ := hrel
      go_wp2_with fail
      go_ret
      exact ⟨rfl, World.grownBy.refl w _⟩
  · go_enter Tryz.func53, Tryz.ntmps53
    go_wp2_with fail
    go_loopw [1, 5] (fun kk i wr => ∃ t : Nat, t ≤ n ∧ i = .int .i64 t ∧ kk = .int .i64 (1 + t) ∧ (∃ ys, wr.ownsRow base 3 1 (.slice (some ⟨g, 0, none⟩) n cap) n ys) ∧ w.grownBy wr (some g)) (fun _ i _ => n - (intOf i).toNat)
    case atStart => exact ⟨0, by omega, rfl, by simp, ⟨_, hown⟩, World.grownBy.refl w _⟩
    case round =>
      obtain ⟨t, ht, rfl, rfl, ⟨ys, ho⟩, hg⟩ := hrel
      by_cases hlt : t < n
      · have hlt' : (t : Int) < n := by omega
        have hlen : ys.length = n * 1 := ho.1
        obtain ⟨u0, hu0⟩ : ∃ u, wr.cell? ⟨g, t, none⟩ = some u := ⟨_, (ho.cellAt t (by omega)).trans (List.getElem?_eq_getElem (by omega))⟩
        have f0 := ho.frozenAt t
        clear hlen
        go_wp2_with fail
        go_roundw
        case rel =>
          obtain ⟨o1, g1⟩ := ho.stored t (.int .i64 (1 + t))
          exact ⟨t + 1, by omega, by go_num, by go_num, ⟨_, o1⟩, hg.trans g1⟩
        case measure => simp [intOf]; omega
      · obtain rfl : t = n := by omega
        go_wp2_with fail
        go_ret
        exact ⟨rfl, hg⟩

def isI64 (x : Int) : Prop := -9223372036854775808 ≤ x ∧ x ≤ 9223372036854775807

theorem OwnI.far {w : World} {base : Nat} {v : Value} {l : List Int} (h : OwnI w base v l) {g j : Nat} (hne : v.ownBlock ≠ some g) (u : Value) : OwnI (w.setCell ⟨g, j, none⟩ u) base v l :=
  World.ownsRow.kept h (grown_set w g j u) (.inr hne)
theorem OwnI.base {w : World} {base b : Nat} {v : Value} {l : List Int} (h : OwnI w base v l) (hb : b ≤ base) : OwnI w b v l := by
  refine ⟨h.1, ?_⟩
  rcases h.2 with h | ⟨g, cap, cur, h1, h2, h3⟩
  · exact .inl h
  · exact .inr ⟨g, cap, cur, h1, by omega, h3⟩
theorem OwnI.not {w : World} {base : Nat} {v : Value} {l : List Int} (h : OwnI w base v l) {g : Nat} (hg : g < base) : v.ownBlock ≠ some g := fun e => by
  have := (World.ownsRow.lt h g e).1
  omega
theorem OwnI.slice {w : World} {base : Nat} {v : Value} {l : List Int} (h : OwnI w base v l) : ∃ A c, v = .slice A l.length c := by
  obtain ⟨A, c, rfl, _⟩ := h.rd
  exact ⟨A, c, rfl⟩

theorem szIntS_yes (A : Option Addr) (n c : Nat) (left : Int) (w : World) (h : (n : Int) ≤ left) (h0 : 0 ≤ left) (h1 : left ≤ 1048576) :
    Calls Tryz.prog 29 #[.slice A n c, .int .i64 left] w fun e w' => e = .returned (.int .i64 (left - n)) ∧ w = w' := by
  go_enter Tryz.func29, Tryz.ntmps29
  go_wp2
  go_ret
  exact ⟨rfl, rfl⟩
theorem szIntS_no (A : Option Addr) (n c : Nat) (left : Int) (w : World) (h : left < n) (h0 : 0 ≤ left) (h1 : left ≤ 1048576) (hn : n ≤ 9223372036854775807) :
    Calls Tryz.prog 29 #[.slice A n c, .int .i64 left] w fun e w' => e = .returned (.int .i64 (-1)) ∧ w = w' := by
  go_enter Tryz.func29, Tryz.ntmps29
  go_wp2
  go_ret
  exact ⟨rfl, rfl⟩

end Go.Proofs.YtmolpkjdjkhnpaaGreatDoor

/-
  The reference's tests of numbers within a range, one and all of a list.
-/
namespace Go.Proofs.YtmolpkjdjkhnpaaGreatDoor
open Go.RowKit

theorem drop_step {α : Type} {l : List α} {k : Nat} {x : α} (h : l[k]? = some x) : l.drop k = x :: l.drop (k + 1) := by
  obtain ⟨hk, rfl⟩ := List.getElem?_eq_some_iff.1 h
  exact List.drop_eq_getElem_cons hk
theorem all_no {f : Int → Bool} {x : Int} {l : List Int} (h : f x = false) : (x :: l).all f = false := by simp [h]
theorem all_go {f : Int → Bool} {x : Int} {l : List Int} (h : f x = true) : (x :: l).all f = l.all f := by simp [h]
theorem l1All_any (v : Value) (l : List Int) (lo hi : Int) (w : World) (h : RdI w v l) (hl : l.length ≤ 1048576) :
    Calls Tryz.prog 32 #[v, .int .i64 lo, .int .i64 hi] w fun e w' => e = .returned (.bool (l.all fun n => decide (lo ≤ n) && decide (n ≤ hi))) ∧ w = w' := by
  obtain ⟨A, cp, rfl, h⟩ := h
  have HA := Lib.hid h
  obtain ⟨f, hf⟩ : ∃ f : Int → Bool, f = fun n => decide (lo ≤ n) && decide (n ≤ hi) := ⟨_, rfl⟩
  have CI : ∀ n w, Calls Tryz.prog 59 #[.int .i64 n, .int .i64 lo, .int .i64 hi] w fun e w' => e = .returned (.bool (f n)) ∧ w = w' := fun n w => by rw [hf]; exact l1In_gen n lo hi w
  have HC := Lib.hid CI
  rw [← hf]
  obtain ⟨R, hR⟩ : ∃ R, R = l.all f := ⟨_, rfl⟩
  rw [← hR]
  have HR := Lib.hid hR
  clear h hR CI hf
  generalize hn : l.length = n at *
  have HN := Lib.hid hn
  clear hn
  go_enter Tryz.func32, Tryz.ntmps32
  go_wp2_with fail
  go_loop [8, 11] (fun _ i => ∃ k : Nat, k ≤ n ∧ i = .int .i64 k ∧ Hid ((l.drop k).all f = R)) (fun _ i => n - (intOf i).toNat)
  case atStart => exact ⟨0, by omega, rfl, Lib.hid HR.out.symm⟩
  case round =>
    obtain ⟨k, hk, rfl, hE⟩ := hrel
    by_cases hlt : k < n
    · obtain ⟨g, off, rfl, hc⟩ := HA.out (by omega)
      obtain ⟨x, hx⟩ : ∃ x, l[k]? = some x := ⟨l[k]'(by have := HN.out; omega), List.getElem?_eq_getElem _⟩
      have a0 := hc k x hx
      have HX := Lib.hid (drop_step hx)
      clear hc hx
      have hlt' : (k : Int) < n := by omega
      cases hok : f x
      · go_wp2_with fail
        refine (HC.out _ _).mono ?_
        rintro e1 wy ⟨rfl, rfl⟩
        go_wp2_with fail
        go_ret
        have e : R = false := by rw [← hE.out, HX.out]; exact all_no hok
        exact ⟨ret_bool e.symm, rfl⟩
      · have HE2 : Hid ((l.drop (k + 1)).all f = R) := Lib.hid (by rw [← hE.out, HX.out]; exact (all_go hok).symm)
        go_wp2_with fail
        refine (HC.out _ _).mono ?_
        rintro e1 wy ⟨rfl, rfl⟩
        go_wp2_with fail
        go_round
        case rel => exact ⟨k + 1, by omega, by go_num, HE2⟩
        case measure => simp [intOf]; omega
    · obtain rfl : k = n := by omega
      go_wp2_with fail
      go_ret
      refine ⟨ret_bool ?_, rfl⟩
      rw [← hE.out, List.drop_of_length_le (by rw [HN.out]; omega)]
      rfl
theorem l1In_sp (n lo hi : Int) (w : World) :
    Calls Tryz.prog 59 #[.int .i64 n, .int .i64 lo, .int .i64 hi] w fun e w' => e = .returned (.bool (spB lo hi n)) ∧ w = w' := l1In_gen n lo hi w

theorem l1All_sp (v : Value) (l : List Int) (lo hi : Int) (w : World) (h : RdI w v l) (hl : l.length ≤ 1048576) :
    Calls Tryz.prog 32 #[v, .int .i64 lo, .int .i64 hi] w fun e w' => e = .returned (.bool (l.all (spB lo hi))) ∧ w = w' := l1All_any v l lo hi w h hl
theorem upto_more {f : Nat → Bool} {k : Nat} (h : f k = true) (hn : ∀ j, j < k → f j = true) : ∀ j, j < k + 1 → f j = true := fun j hj => by
  rcases Nat.lt_or_ge j k with h1 | h1
  · exact hn j h1
  · obtain rfl : j = k := by omega
    exact h

end Go.Proofs.YtmolpkjdjkhnpaaGreatDoor

/-
  Maps as plain numbers and lists: indices, neighbours, edges, valid maps. No program is looked into.
-/
namespace Go.Proofs.YtmolpkjdjkhnpaaGreatDoor
open Go.RowKit

def sideB (n : Int) : Bool := decide (1 ≤ n) && decide (n ≤ 10)
def terrB (n : Int) : Bool := decide (0 ≤ n) && decide (n ≤ 5)
def dirB (d : Int) : Bool := decide (0 ≤ d) && decide (d ≤ 5)
def onI (W H i : Int) : Bool := decide (0 ≤ i) && decide (i < W * H)
def inM (W H q r : Int) : Bool := (decide (0 ≤ q) && decide (q < W)) && (decide (0 ≤ r) && decide (r < H))
def idxM (W q r : Int) : Int := r * W + q
def nbQ (W i d : Int) : Int := i % W + dirQ d
def nbR (W i d : Int) : Int := i / W + dirR d
def nbM (W H i d : Int) : Bool := inM W H (nbQ W i d) (nbR W i d)
def nbB (W H i d : Int) : Bool := onI W H i && (dirB d && nbM W H i d)
def nbI (W i d : Int) : Int := idxM W (nbQ W i d) (nbR W i d)
def edgI (W i d : Int) : Int := if d < 3 then 3 * i + d else 3 * nbI W i d + d - 3
def edgeB (W H e : Int) : Bool := nbB W H (e.tdiv 3) (e.tmod 3)
def riseFrom : Int → List Int → Bool
  | _, [] => true
  | p, x :: l => decide (p < x) && riseFrom x l
def edgesFrom (W H : Int) : Int → List Int → Bool
  | _, [] => true
  | p, x :: l => edgeB W H x && (decide (p < x) && edgesFrom W H x l)
def edgesOk (W H : Int) (l : List Int) : Bool := edgesFrom W H (-1) l
def mapOk (W H : Int) (lt lr ld : List Int) : Bool :=
  sideB W && (sideB H && (decide ((lt.length : Int) = W * H) && (lt.all terrB && (edgesOk W H lr && edgesOk W H ld))))

theorem sideB_true {n : Int} (h : sideB n = true) : 1 ≤ n ∧ n ≤ 10 := by simpa [sideB] using h
theorem onI_true {W H i : Int} (h : onI W H i = true) : 0 ≤ i ∧ i < W * H := by simpa [onI] using h
theorem onI_mk {W H i : Int} (h : 0 ≤ i) (h' : i < W * H) : onI W H i = true := by simp [onI, h, h']
theorem dirB_true {d : Int} (h : dirB d = true) : 0 ≤ d ∧ d ≤ 5 := by simpa [dirB] using h
theorem dirB_mk {d : Int} (h : 0 ≤ d) (h' : d ≤ 5) : dirB d = true := by simp [dirB, h, h']
theorem inM_true {W H q r : Int} (h : inM W H q r = true) : 0 ≤ q ∧ q < W ∧ 0 ≤ r ∧ r < H := by
  simp only [inM, Bool.and_eq_true, decide_eq_true_eq] at h
  exact ⟨h.1.1, h.1.2, h.2.1, h.2.2⟩
theorem inM_mk {W H q r : Int} (a : 0 ≤ q) (b : q < W) (c : 0 ≤ r) (d : r < H) : inM W H q r = true := by simp [inM, a, b, c, d]

theorem area_bd {W H : Int} (a : 1 ≤ W) (b : W ≤ 10) (c : 1 ≤ H) (d : H ≤ 10) : 1 ≤ W * H ∧ W * H ≤ 100 := by
  have h1 : 0 ≤ (W - 1) * (H - 1) := Int.mul_nonneg (by omega) (by omega)
  have h2 : 0 ≤ (10 - W) * (10 - H) := Int.mul_nonneg (by omega) (by omega)
  have h3 : 0 ≤ (10 - W) * (H - 1) := Int.mul_nonneg (by omega) (by omega)
  simp only [Int.sub_mul, Int.mul_sub] at h1 h2 h3
  omega
theorem mul_bd {W r : Int} (a : 1 ≤ W) (b : W ≤ 10) (c : -20 ≤ r) (d : r ≤ 200) : -200 ≤ r * W ∧ r * W ≤ 2000 := by
  have h1 : 0 ≤ (r + 20) * W := Int.mul_nonneg (by omega) (by omega)
  have h2 : 0 ≤ (200 - r) * W := Int.mul_nonneg (by omega) (by omega)
  simp only [Int.sub_mul, Int.add_mul] at h1 h2
  omega
theorem hex_bd {W H i : Int} (a : 1 ≤ W) (b : W ≤ 10) (h0 : 0 ≤ i) (h : i < W * H) : 0 ≤ i % W ∧ i % W < W ∧ 0 ≤ i / W ∧ i / W < H := by
  refine ⟨Int.emod_nonneg _ (by omega), Int.emod_lt_of_pos _ (by omega), Int.ediv_nonneg h0 (by omega), ?_⟩
  exact Int.ediv_lt_of_lt_mul (by omega) (by rw [Int.mul_comm]; exact h)
theorem idx_bd {W H q r : Int} (h : inM W H q r = true) : 0 ≤ idxM W q r ∧ idxM W q r < W * H := by
  obtain ⟨a, b, c, d⟩ := inM_true h
  have h1 : 0 ≤ r * W := Int.mul_nonneg (by omega) (by omega)
  have h2 : 0 ≤ (H - 1 - r) * W := Int.mul_nonneg (by omega) (by omega)
  simp only [Int.sub_mul] at h2
  rw [Int.mul_comm W H]
  unfold idxM
  omega

theorem edgeB_nat {W H e : Int} (h : 0 ≤ e) : edgeB W H e = nbB W H (e / 3) (e % 3) := by
  unfold edgeB
  rw [Int.tdiv_eq_ediv_of_nonneg h, Int.tmod_eq_emod_of_nonneg h]
theorem edgeB_neg {W H e : Int} (h : e < 0) : edgeB W H e = false := by
  unfold edgeB nbB
  by_cases h1 : e.tdiv 3 < 0
  · have : onI W H (e.tdiv 3) = false := by unfold onI; simp; omega
    simp [this]
  · have : dirB (e.tmod 3) = false := by
      unfold dirB
      have := Int.mul_tdiv_add_tmod e 3
      simp
      omega
    simp [this]
theorem edgeB_big {W H e : Int} (h : 3 * (W * H) ≤ e) (h0 : 0 ≤ e) : edgeB W H e = false := by
  rw [edgeB_nat h0]
  have : onI W H (e / 3) = false := by unfold onI; simp; omega
  simp [nbB, this]
theorem edgeB_in {W H e : Int} (h0 : 0 ≤ e) (h : e < 3 * (W * H)) : edgeB W H e = nbM W H (e / 3) (e % 3) := by
  rw [edgeB_nat h0]
  have h1 : onI W H (e / 3) = true := onI_mk (by omega) (by omega)
  have h2 : dirB (e % 3) = true := dirB_mk (by omega) (by omega)
  simp [nbB, h1, h2]
theorem edgesFrom_eq (W H : Int) : ∀ (p : Int) (l : List Int), edgesFrom W H p l = (l.all (edgeB W H) && riseFrom p l)
  | _, [] => rfl
  | p, x :: l => by
    simp only [edgesFrom, riseFrom, List.all_cons, edgesFrom_eq W H x l]
    cases edgeB W H x <;> cases decide (p < x) <;> simp
theorem edgesOk_eq (W H : Int) (l : List Int) : edgesOk W H l = (l.all (edgeB W H) && riseFrom (-1) l) := edgesFrom_eq W H _ _

end Go.Proofs.YtmolpkjdjkhnpaaGreatDoor

/-
  The six directions: the table of the program and the two lists of the reference hold the same steps; the functions on neighbours return what plain functions on integers say, and change nothing that was there.
-/
namespace Go.Proofs.YtmolpkjdjkhnpaaGreatDoor
open Go.RowKit

theorem isDirection_any (n : Int) (w : World) :
    Calls Tryz.prog 100 #[.int .i64 n] w fun e w' => e = .returned (.bool (decide (0 ≤ n) && decide (n ≤ 5))) ∧ w = w' := by
  by_cases h1 : 0 ≤ n
  · by_cases h2 : n < 6
    · have h3 : n ≤ 5 := by omega
      go_enter Tryz.func100, Tryz.ntmps100
      go_wp2
      go_ret
      exact ⟨ret_bool (by simp [h1, h3]), rfl⟩
    · have h3 : ¬ n ≤ 5 := by omega
      go_enter Tryz.func100, Tryz.ntmps100
      go_wp2
      go_ret
      exact ⟨ret_bool (by simp; omega), rfl⟩
  · go_enter Tryz.func100, Tryz.ntmps100
    go_wp2
    go_ret
    exact ⟨ret_bool (by simp; omega), rfl⟩


/-- The program's table of directions, as its text lays it. -/
def Tab (w : World) : Prop := ∀ d : Nat, d < 6 → w.cell? ⟨14, d * 2, none⟩ = some (.int .i64 (dirQ d)) ∧ w.cell? ⟨14, d * 2 + 1, none⟩ = some (.int .i64 (dirR d))
theorem Tab.keep {w w' : World} (h : Tab w) (hk : Kp w w') : Tab w' := fun d hd => ⟨hk.cell (h d hd).1, hk.cell (h d hd).2⟩

def nbOk (q r d : Int) : Bool := okH q r && (decide (0 ≤ d) && decide (d ≤ 5)) && okH (q + dirQ d) (r + dirR d)

/-- The answer of DirectionTo at the differences x, y. -/
def dirRes (x y : Int) : Int × Bool :=
  if x = 1 ∧ y = 0 then (0, true) else if x = 1 ∧ y = -1 then (1, true) else if x = 0 ∧ y = -1 then (2, true) else if x = -1 ∧ y = 0 then (3, true) else if x = -1 ∧ y = 1 then (4, true) else if x = 0 ∧ y = 1 then (5, true) else (0, false)
def noDir (x y : Int) (k : Nat) : Prop := ∀ j : Nat, j < k → ¬ (x = dirQ j ∧ y = dirR j)
theorem dirRes_at {x y : Int} {k : Nat} (hk : k < 6) (h : x = dirQ k ∧ y = dirR k) : dirRes x y = ((k : Int), true) := by
  obtain ⟨rfl, rfl⟩ := h
  match k, hk with
  | 0, _ => decide
  | 1, _ => decide
  | 2, _ => decide
  | 3, _ => decide
  | 4, _ => decide
  | 5, _ => decide
theorem dirRes_no {x y : Int} (h : noDir x y 6) : dirRes x y = (0, false) := by
  have h0 := h 0 (by omega)
  have h1 := h 1 (by omega)
  have h2 := h 2 (by omega)
  have h3 := h 3 (by omega)
  have h4 := h 4 (by omega)
  have h5 := h 5 (by omega)
  simp [dirQ, dirR] at h0 h1 h2 h3 h4 h5
  unfold dirRes
  rw [if_neg (by omega), if_neg (by omega), if_neg (by omega), if_neg (by omega), if_neg (by omega), if_neg (by omega)]
theorem noDir_succ {x y : Int} {k : Nat} (h : noDir x y k) (hk : ¬ (x = dirQ k ∧ y = dirR k)) : noDir x y (k + 1) := fun j hj => by
  rcases Nat.lt_succ_iff_lt_or_eq.1 hj with h' | rfl
  · exact h j h'
  · exact hk
end Go.Proofs.YtmolpkjdjkhnpaaGreatDoor

/-
  The program's small functions on maps return what plain functions on integers say, and change nothing that was there.
-/
namespace Go.Proofs.YtmolpkjdjkhnpaaGreatDoor
open Go.RowKit

abbrev mp (W H : Int) (t r d : Value) : Value := .agg #[.int .i64 W, .int .i64 H, t, r, d]

theorem isSide_any (n : Int) (w : World) :
    Calls Tryz.prog 71 #[.int .i64 n] w fun e w' => e = .returned (.bool (sideB n)) ∧ w = w' := by
  by_cases h1 : 1 ≤ n
  · by_cases h2 : n ≤ 10
    · go_enter Tryz.func71, Tryz.ntmps71
      go_wp2
      go_ret
      exact ⟨ret_bool (by simp [sideB, h1, h2]), rfl⟩
    · go_enter Tryz.func71, Tryz.ntmps71
      go_wp2
      go_ret
      exact ⟨ret_bool (by simp [sideB]; omega), rfl⟩
  · go_enter Tryz.func71, Tryz.ntmps71
    go_wp2
    go_ret
    exact ⟨ret_bool (by simp [sideB]; omega), rfl⟩

theorem isTerrain_any (n : Int) (w : World) :
    Calls Tryz.prog 72 #[.int .i64 n] w fun e w' => e = .returned (.bool (terrB n)) ∧ w = w' := by
  by_cases h1 : 0 ≤ n
  · by_cases h2 : n < 6
    · go_enter Tryz.func72, Tryz.ntmps72
      go_wp2
      go_ret
      exact ⟨ret_bool (by simp [terrB]; omega), rfl⟩
    · go_enter Tryz.func72, Tryz.ntmps72
      go_wp2
      go_ret
      exact ⟨ret_bool (by simp [terrB]; omega), rfl⟩
  · go_enter Tryz.func72, Tryz.ntmps72
    go_wp2
    go_ret
    exact ⟨ret_bool (by simp [terrB]; omega), rfl⟩

theorem countHexes_any (W H : Int) (t r d : Value) (w : World) (a : 1 ≤ W) (b : W ≤ 10) (c : 1 ≤ H) (e : H ≤ 10) :
    Calls Tryz.prog 42 #[mp W H t r d] w fun e w' => e = .returned (.int .i64 (W * H)) ∧ Kp w w' := by
  have hb := area_bd a b c e
  go_enter Tryz.func42, Tryz.ntmps42
  go_wp2
  go_ret
  exact ⟨rfl, (Kp.refl _).alloc _⟩

theorem isIndex_any (W H : Int) (t r d : Value) (i : Int) (w : World) (a : 1 ≤ W) (b : W ≤ 10) (c : 1 ≤ H) (e : H ≤ 10) :
    Calls Tryz.prog 99 #[mp W H t r d, .int .i64 i] w fun e w' => e = .returned (.bool (onI W H i)) ∧ Kp w w' := by
  by_cases h0 : 0 ≤ i
  · by_cases h1 : i < W * H
    · go_enter Tryz.func99, Tryz.ntmps99
      go_wp2_with fail
      refine (countHexes_any _ _ _ _ _ _ a b c e).mono ?_
      rintro e w1 ⟨rfl, k1⟩
      go_wp2
      go_ret
      exact ⟨ret_bool (onI_mk h0 h1).symm, ((Kp.refl _).alloc _).trans k1⟩
    · have hd : decide (i < W * H) = false := by simpa using h1
      go_enter Tryz.func99, Tryz.ntmps99
      go_wp2_with fail
      refine (countHexes_any _ _ _ _ _ _ a b c e).mono ?_
      rintro e w1 ⟨rfl, k1⟩
      go_wp2
      go_ret
      exact ⟨ret_bool (by simp [onI]; omega), ((Kp.refl _).alloc _).trans k1⟩
  · have hd : decide (0 ≤ i) = false := by simpa using h0
    go_enter Tryz.func99, Tryz.ntmps99
    go_wp2
    go_ret
    exact ⟨ret_bool (by simp [onI]; omega), (Kp.refl _).alloc _⟩

theorem hexWithIndex_any (W H : Int) (t r d : Value) (i : Int) (w : World) (a : 1 ≤ W) (b : W ≤ 10) (h0 : 0 ≤ i) (h1 : i ≤ 100000) :
    Calls Tryz.prog 75 #[mp W H t r d, .int .i64 i] w fun e w' => e = .returned (hx (i % W) (i / W)) ∧ Kp w w' := by
  have hW0 : W ≠ 0 := by omega
  go_enter Tryz.func75, Tryz.ntmps75
  go_wp2
  go_region
  all_goals
    go_wp2
    exact bodyPost_ret (v := hx (i % W) (i / W)) (by simp [results, Tryz.results75, go_sem]) rfl ⟨rfl, (((Kp.refl _).alloc _).alloc _).drew⟩

theorem ib_true (x : Int) : ib true x = .tuple #[.int .i64 x, .bool true] := rfl
theorem ib_false (x : Int) : ib false x = .tuple #[.int .i64 0, .bool false] := rfl

theorem indexOfHex_any (W H : Int) (t r d : Value) (hq hr : Int) (w : World) (a : 1 ≤ W) (b : W ≤ 10) (c : 1 ≤ H) (e : H ≤ 10) :
    Calls Tryz.prog 101 #[mp W H t r d, hx hq hr] w fun e w' => e = .returned (ib (inM W H hq hr) (idxM W hq hr)) ∧ Kp w w' := by
  by_cases h : 0 ≤ hq ∧ hq < W ∧ 0 ≤ hr ∧ hr < H
  · obtain ⟨h1, h2, h3, h4⟩ := h
    rw [inM_mk h1 h2 h3 h4, ib_true]
    have hm := mul_bd a b (r := hr) (by omega) (by omega)
    unfold idxM
    go_enter Tryz.func101, Tryz.ntmps101
    go_wp2
    go_ret2
    exact ⟨rfl, ((Kp.refl _).alloc _).alloc _⟩
  · have hf : inM W H hq hr = false := by simp [inM]; omega
    rw [hf, ib_false]
    clear hf
    go_enter Tryz.func101, Tryz.ntmps101
    go_wp2
    all_goals
      go_ret2
      exact ⟨rfl, ((Kp.refl _).alloc _).alloc _⟩

end Go.Proofs.YtmolpkjdjkhnpaaGreatDoor

/-
  The program's neighbours and edges of a map return what plain functions on integers say, and change nothing that was there. The table of directions holds what the program's text lays.
-/
namespace Go.Proofs.YtmolpkjdjkhnpaaGreatDoor
open Go.RowKit

theorem keep5 {W0 w w1 : World} {b : Nat} {v0 v1 v2 v3 v4 : Value} (k : Kp w w1)
    (h : w.cell? ⟨b, 0, none⟩ = some v0 ∧ w.cell? ⟨b, 1, none⟩ = some v1 ∧ w.cell? ⟨b, 2, none⟩ = some v2 ∧ w.cell? ⟨b, 3, none⟩ = some v3 ∧ w.cell? ⟨b, 4, none⟩ = some v4 ∧ Kp W0 w) :
    w1.cell? ⟨b, 0, none⟩ = some v0 ∧ w1.cell? ⟨b, 1, none⟩ = some v1 ∧ w1.cell? ⟨b, 2, none⟩ = some v2 ∧ w1.cell? ⟨b, 3, none⟩ = some v3 ∧ w1.cell? ⟨b, 4, none⟩ = some v4 ∧ Kp W0 w1 :=
  ⟨k.cell h.1, k.cell h.2.1, k.cell h.2.2.1, k.cell h.2.2.2.1, k.cell h.2.2.2.2.1, h.2.2.2.2.2.trans k⟩
theorem new5 (w : World) (v0 v1 v2 v3 v4 : Value) (T : TypeId) :
    (w.alloc (.cells #[v0, v1, v2, v3, v4] T)).cell? ⟨w.heap.size, 0, none⟩ = some v0 ∧ (w.alloc (.cells #[v0, v1, v2, v3, v4] T)).cell? ⟨w.heap.size, 1, none⟩ = some v1 ∧ (w.alloc (.cells #[v0, v1, v2, v3, v4] T)).cell? ⟨w.heap.size, 2, none⟩ = some v2 ∧ (w.alloc (.cells #[v0, v1, v2, v3, v4] T)).cell? ⟨w.heap.size, 3, none⟩ = some v3 ∧ (w.alloc (.cells #[v0, v1, v2, v3, v4] T)).cell? ⟨w.heap.size, 4, none⟩ = some v4 ∧ Kp w (w.alloc (.cells #[v0, v1, v2, v3, v4] T)) :=
  ⟨by simp [go_sem], by simp [go_sem], by simp [go_sem], by simp [go_sem], by simp [go_sem], (Kp.refl _).alloc _⟩
theorem keep7 {W0 w w1 : World} {b g o : Nat} {v0 v1 v2 v3 v4 x y : Value} (k : Kp w w1)
    (h : w.cell? ⟨b, 0, none⟩ = some v0 ∧ w.cell? ⟨b, 1, none⟩ = some v1 ∧ w.cell? ⟨b, 2, none⟩ = some v2 ∧ w.cell? ⟨b, 3, none⟩ = some v3 ∧ w.cell? ⟨b, 4, none⟩ = some v4 ∧ w.cell? ⟨g, o, none⟩ = some x ∧ w.cell? ⟨g, o + 1, none⟩ = some y ∧ Kp W0 w) :
    w1.cell? ⟨b, 0, none⟩ = some v0 ∧ w1.cell? ⟨b, 1, none⟩ = some v1 ∧ w1.cell? ⟨b, 2, none⟩ = some v2 ∧ w1.cell? ⟨b, 3, none⟩ = some v3 ∧ w1.cell? ⟨b, 4, none⟩ = some v4 ∧ w1.cell? ⟨g, o, none⟩ = some x ∧ w1.cell? ⟨g, o + 1, none⟩ = some y ∧ Kp W0 w1 :=
  ⟨k.cell h.1, k.cell h.2.1, k.cell h.2.2.1, k.cell h.2.2.2.1, k.cell h.2.2.2.2.1, k.cell h.2.2.2.2.2.1, k.cell h.2.2.2.2.2.2.1, h.2.2.2.2.2.2.2.trans k⟩

theorem isDirection_d (d : Int) (w : World) :
    Calls Tryz.prog 100 #[.int .i64 d] w fun e w' => e = .returned (.bool (dirB d)) ∧ w = w' := isDirection_any d w

set_option maxHeartbeats 1000000 in
theorem neighbourIndex_yes (W H : Int) (t r d : Value) (i x : Int) (w : World) (a : 1 ≤ W) (b : W ≤ 10) (c : 1 ≤ H) (e : H ≤ 10) (ht : Tab w) (ho : onI W H i = true) (hd : dirB x = true) :
    Calls Tryz.prog 92 #[mp W H t r d, .int .i64 i, .int .i64 x] w fun e w' => e = .returned (ib (nbM W H i x) (nbI W i x)) ∧ Kp w w' := by
  obtain ⟨h0, h1⟩ := onI_true ho
  obtain ⟨d0, d5⟩ := dirB_true hd
  have hA := area_bd a b c e
  obtain ⟨n, rfl⟩ := Int.eq_ofNat_of_zero_le d0
  have bd := dir_bd n
  have hh := hex_bd a b h0 h1
  have HT := Lib.hid ht
  have hn : (n : Int) < 6 := by omega
  unfold nbM nbI nbQ nbR
  clear ht
  go_enter Tryz.func92, Tryz.ntmps92
  go_wp2_with fail
  have s0 := new5 w (.int .i64 W) (.int .i64 H) t r d 36
  refine (isIndex_any _ _ _ _ _ _ _ a b c e).mono ?_
  rintro e1 wa ⟨rfl, ka⟩
  have s1 := keep5 ka s0
  clear s0 ka
  obtain ⟨t0, t1⟩ := HT.out.keep s1.2.2.2.2.2 n (by omega)
  have s2 : wa.drew.cell? ⟨w.heap.size, 0, none⟩ = some (.int .i64 W) ∧ wa.drew.cell? ⟨w.heap.size, 1, none⟩ = some (.int .i64 H) ∧ wa.drew.cell? ⟨w.heap.size, 2, none⟩ = some t ∧ wa.drew.cell? ⟨w.heap.size, 3, none⟩ = some r ∧ wa.drew.cell? ⟨w.heap.size, 4, none⟩ = some d ∧ wa.drew.cell? ⟨14, n * 2, none⟩ = some (.int .i64 (dirQ n)) ∧ wa.drew.cell? ⟨14, n * 2 + 1, none⟩ = some (.int .i64 (dirR n)) ∧ Kp w wa.drew :=
    ⟨s1.1, s1.2.1, s1.2.2.1, s1.2.2.2.1, s1.2.2.2.2.1, t0, t1, s1.2.2.2.2.2.drew⟩
  go_wp2_with fail
  refine (isDirection_d _ _).mono ?_
  rintro e2 wb ⟨rfl, rfl⟩
  go_wp2_with fail
  go_region_held3 (fun w' => w'.cell? ⟨w.heap.size, 0, none⟩ = some (.int .i64 W) ∧ w'.cell? ⟨w.heap.size, 1, none⟩ = some (.int .i64 H) ∧ w'.cell? ⟨w.heap.size, 2, none⟩ = some t ∧ w'.cell? ⟨w.heap.size, 3, none⟩ = some r ∧ w'.cell? ⟨w.heap.size, 4, none⟩ = some d ∧ w'.cell? ⟨14, n * 2, none⟩ = some (.int .i64 (dirQ n)) ∧ w'.cell? ⟨14, n * 2 + 1, none⟩ = some (.int .i64 (dirR n)) ∧ Kp w w') (first | assumption | exact s2)
    (first
      | (go_at_call 75; refine (hexWithIndex_any _ _ _ _ _ _ _ a b h0 (by omega)).mono ?_; rintro e wc ⟨rfl, kc⟩; have sc := keep7 kc (by assumption))
      | (go_at_call 102; refine (shifted_any _ _ _ _ _ (by omega) (by omega) (by omega) (by omega) (by omega) (by omega) (by omega) (by omega)).mono ?_; rintro e wd ⟨rfl, kd⟩; have sd := keep7 kd (by assumption))
      | (go_at_call 101; refine (indexOfHex_any _ _ _ _ _ _ _ _ a b c e).mono ?_; rintro e3 we ⟨rfl, ke⟩; have se := keep7 ke (by assumption)))
  all_goals
    go_wp2_with fail
    go_ret2
    exact ⟨rfl, se.2.2.2.2.2.2.2⟩

theorem neighbourIndex_any (W H : Int) (t r d : Value) (i x : Int) (w : World) (a : 1 ≤ W) (b : W ≤ 10) (c : 1 ≤ H) (e : H ≤ 10) (ht : Tab w) :
    Calls Tryz.prog 92 #[mp W H t r d, .int .i64 i, .int .i64 x] w fun e w' => e = .returned (ib (nbB W H i x) (nbI W i x)) ∧ Kp w w' := by
  cases ho : onI W H i
  · have en : nbB W H i x = false := by simp [nbB, ho]
    rw [en, ib_false]
    clear en
    go_enter Tryz.func92, Tryz.ntmps92
    go_wp2_with fail
    refine (isIndex_any _ _ _ _ _ _ _ a b c e).mono ?_
    rintro e1 wa ⟨rfl, ka⟩
    go_wp2_with fail
    go_ret2
    exact ⟨rfl, ((Kp.refl _).alloc _).trans ka⟩
  · cases hd : dirB x
    · have en : nbB W H i x = false := by simp [nbB, hd]
      rw [en, ib_false]
      clear en
      go_enter Tryz.func92, Tryz.ntmps92
      go_wp2_with fail
      refine (isIndex_any _ _ _ _ _ _ _ a b c e).mono ?_
      rintro e1 wa ⟨rfl, ka⟩
      go_wp2_with fail
      refine (isDirection_d _ _).mono ?_
      rintro e2 wb ⟨rfl, rfl⟩
      go_wp2_with fail
      go_ret2
      exact ⟨rfl, ((Kp.refl _).alloc _).trans ka⟩
    · have en : nbB W H i x = nbM W H i x := by simp [nbB, ho, hd]
      rw [en]
      exact neighbourIndex_yes W H t r d i x w a b c e ht ho hd

theorem nbB_true {W H i x : Int} (h : nbB W H i x = true) : (0 ≤ i ∧ i < W * H) ∧ (0 ≤ x ∧ x ≤ 5) ∧ 0 ≤ nbI W i x ∧ nbI W i x < W * H := by
  simp only [nbB, Bool.and_eq_true] at h
  exact ⟨onI_true h.1, dirB_true h.2.1, idx_bd h.2.2⟩

theorem edgeNumber_any (W H : Int) (t r d : Value) (i x : Int) (w : World) (a : 1 ≤ W) (b : W ≤ 10) (c : 1 ≤ H) (e : H ≤ 10) (ht : Tab w) :
    Calls Tryz.prog 76 #[mp W H t r d, .int .i64 i, .int .i64 x] w fun e w' => e = .returned (ib (nbB W H i x) (edgI W i x)) ∧ Kp w w' := by
  have HT := Lib.hid (Tab.keep ht ((Kp.refl w).alloc (.cells #[.int .i64 W, .int .i64 H, t, r, d] 36)))
  have hA := area_bd a b c e
  clear ht
  cases hn : nbB W H i x
  · rw [ib_false]
    go_enter Tryz.func76, Tryz.ntmps76
    go_wp2_with fail
    refine (neighbourIndex_any _ _ _ _ _ _ _ _ a b c e HT.out).mono ?_
    rintro e1 wa ⟨rfl, ka⟩
    go_wp2_with fail
    go_ret2
    exact ⟨rfl, ((Kp.refl _).alloc _).trans ka⟩
  · rw [ib_true]
    obtain ⟨⟨i0, i1⟩, ⟨x0, x5⟩, n0, n1⟩ := nbB_true hn
    have hv : vI true (nbI W i x) = nbI W i x := rfl
    unfold edgI
    by_cases hx : x < 3
    · rw [if_pos hx]
      go_enter Tryz.func76, Tryz.ntmps76
      go_wp2_with fail
      refine (neighbourIndex_any _ _ _ _ _ _ _ _ a b c e HT.out).mono ?_
      rintro e1 wa ⟨rfl, ka⟩
      go_wp2_with fail
      go_ret2
      exact ⟨rfl, ((Kp.refl _).alloc _).trans ka⟩
    · rw [if_neg hx]
      go_enter Tryz.func76, Tryz.ntmps76
      go_wp2_with fail
      refine (neighbourIndex_any _ _ _ _ _ _ _ _ a b c e HT.out).mono ?_
      rintro e1 wa ⟨rfl, ka⟩
      go_wp2_with fail
      go_ret2
      exact ⟨rfl, ((Kp.refl _).alloc _).trans ka⟩

abbrev iib (b : Bool) (x y : Int) : Value := .tuple #[.int .i64 (vI b x), .int .i64 (vI b y), .bool b]

theorem edgeEnds_any (W H : Int) (t r d : Value) (x : Int) (w : World) (a : 1 ≤ W) (b : W ≤ 10) (c : 1 ≤ H) (e : H ≤ 10) (ht : Tab w) (hx : isI64 x) :
    Calls Tryz.prog 91 #[mp W H t r d, .int .i64 x] w fun e w' => e = .returned (iib (edgeB W H x) (x / 3) (nbI W (x / 3) (x % 3))) ∧ Kp w w' := by
  have HT := Lib.hid (Tab.keep ht ((Kp.refl w).alloc (.cells #[.int .i64 W, .int .i64 H, t, r, d] 36)))
  obtain ⟨x1, x2⟩ := hx
  clear ht
  by_cases h0 : 0 ≤ x
  · rw [edgeB_nat h0]
    cases hn : nbB W H (x / 3) (x % 3)
    · go_enter Tryz.func91, Tryz.ntmps91
      go_wp2_with fail
      refine (neighbourIndex_any _ _ _ _ _ _ _ _ a b c e HT.out).mono ?_
      rintro e1 wa ⟨rfl, ka⟩
      go_wp2_with fail
      go_ret3
      exact ⟨rfl, ((Kp.refl _).alloc _).trans ka⟩
    · go_enter Tryz.func91, Tryz.ntmps91
      go_wp2_with fail
      refine (neighbourIndex_any _ _ _ _ _ _ _ _ a b c e HT.out).mono ?_
      rintro e1 wa ⟨rfl, ka⟩
      go_wp2_with fail
      go_ret3
      exact ⟨rfl, ((Kp.refl _).alloc _).trans ka⟩
  · have hn := edgeB_neg (W := W) (H := H) (e := x) (by omega)
    rw [hn]
    unfold edgeB at hn
    go_enter Tryz.func91, Tryz.ntmps91
    go_wp2_with fail
    refine (neighbourIndex_any _ _ _ _ _ _ _ _ a b c e HT.out).mono ?_
    rintro e1 wa ⟨rfl, ka⟩
    go_wp2_with fail
    go_ret3
    exact ⟨rfl, ((Kp.refl _).alloc _).trans ka⟩

end Go.Proofs.YtmolpkjdjkhnpaaGreatDoor

/-
  The program's lists of edges and its test of a map return what plain functions on lists say, and change nothing that was there. The table of directions holds what the program's text lays.
-/
namespace Go.Proofs.YtmolpkjdjkhnpaaGreatDoor
open Go.RowKit

theorem Tab.k5 {w w' : World} {b : Nat} {v0 v1 v2 v3 v4 : Value} (ht : Tab w)
    (h : w'.cell? ⟨b, 0, none⟩ = some v0 ∧ w'.cell? ⟨b, 1, none⟩ = some v1 ∧ w'.cell? ⟨b, 2, none⟩ = some v2 ∧ w'.cell? ⟨b, 3, none⟩ = some v3 ∧ w'.cell? ⟨b, 4, none⟩ = some v4 ∧ Kp w w') : Tab w' := ht.keep h.2.2.2.2.2

theorem edgesFrom_no1 {W H p x : Int} {l : List Int} (h : edgeB W H x = false) : edgesFrom W H p (x :: l) = false := by simp [edgesFrom, h]
theorem edgesFrom_no2 {W H p x : Int} {l : List Int} (h : ¬ p < x) : edgesFrom W H p (x :: l) = false := by simp [edgesFrom, h]
theorem edgesFrom_go {W H p x : Int} {l : List Int} (h : edgeB W H x = true) (h' : p < x) : edgesFrom W H p (x :: l) = edgesFrom W H x l := by simp [edgesFrom, h, h']

theorem areEdges_any (W H : Int) (t r d v : Value) (l : List Int) (w : World) (a : 1 ≤ W) (b : W ≤ 10) (c : 1 ≤ H) (e : H ≤ 10) (ht : Tab w) (h : RdI w v l) (hB : ∀ x ∈ l, isI64 x) (hl : l.length ≤ 1048576) :
    Calls Tryz.prog 74 #[mp W H t r d, v] w fun e w' => e = .returned (.bool (edgesOk W H l)) ∧ Kp w w' := by
  obtain ⟨A, cp, rfl, h⟩ := h
  have HA := Lib.hid h
  have HB := Lib.hid hB
  have HT := Lib.hid ht
  obtain ⟨R, hR⟩ : ∃ R, R = edgesOk W H l := ⟨_, rfl⟩
  rw [← hR]
  have HR := Lib.hid hR
  clear h hB ht hR
  generalize hn : l.length = n at *
  have HN := Lib.hid hn
  clear hn
  have s0 := new5 w (.int .i64 W) (.int .i64 H) t r d 36
  go_enter Tryz.func74, Tryz.ntmps74
  go_wp2_with fail
  go_loopw [5, 13] (fun q i wr => ∃ (k : Nat) (p : Int), k ≤ n ∧ i = .int .i64 k ∧ q = .int .i64 p ∧ Hid (edgesFrom W H p (l.drop k) = R) ∧
    (wr.cell? ⟨w.heap.size, 0, none⟩ = some (.int .i64 W) ∧ wr.cell? ⟨w.heap.size, 1, none⟩ = some (.int .i64 H) ∧ wr.cell? ⟨w.heap.size, 2, none⟩ = some t ∧ wr.cell? ⟨w.heap.size, 3, none⟩ = some r ∧ wr.cell? ⟨w.heap.size, 4, none⟩ = some d ∧ Kp w wr)) (fun _ i _ => n - (intOf i).toNat)
  case atStart => exact ⟨0, -1, by omega, rfl, rfl, Lib.hid (by rw [HR.out]; rfl), s0⟩
  case round =>
    clear s0
    obtain ⟨k, p, hk, rfl, rfl, hE, sr⟩ := hrel
    by_cases hlt : k < n
    · obtain ⟨g, off, rfl, hc⟩ := HA.out (by omega)
      obtain ⟨x, hx⟩ : ∃ x, l[k]? = some x := ⟨l[k]'(by have := HN.out; omega), List.getElem?_eq_getElem _⟩
      have a0 := sr.2.2.2.2.2.cell (hc k x hx)
      have HX := Lib.hid (drop_step hx)
      have Hx := Lib.hid (HB.out x (List.mem_of_getElem? hx))
      clear hc hx
      have hlt' : (k : Int) < n := by omega
      cases hok : edgeB W H x
      · go_wp2_with fail
        refine (edgeEnds_any _ _ _ _ _ _ _ a b c e (HT.out.k5 sr) Hx.out).mono ?_
        rintro e1 wa ⟨rfl, ka⟩
        go_wp2_with fail
        go_ret
        have e : R = false := by rw [← hE.out, HX.out]; exact edgesFrom_no1 hok
        exact ⟨ret_bool e.symm, sr.2.2.2.2.2.trans ka⟩
      · by_cases hp : p < x
        · have hp' : decide (x ≤ p) = false := by simp; omega
          have HE2 : Hid (edgesFrom W H x (l.drop (k + 1)) = R) := Lib.hid (by rw [← hE.out, HX.out]; exact (edgesFrom_go hok hp).symm)
          go_wp2_with fail
          refine (edgeEnds_any _ _ _ _ _ _ _ a b c e (HT.out.k5 sr) Hx.out).mono ?_
          rintro e1 wa ⟨rfl, ka⟩
          have sa := keep5 ka sr
          go_wp2_with fail
          go_roundw
          case rel => exact ⟨k + 1, x, by omega, by go_num, rfl, HE2, sa⟩
          case measure => simp [intOf]; omega
        · have hp' : x ≤ p := by omega
          have e : R = false := by rw [← hE.out, HX.out]; exact edgesFrom_no2 hp
          have HE2 := Lib.hid e
          clear e
          go_wp2_with fail
          refine (edgeEnds_any _ _ _ _ _ _ _ a b c ‹_› (HT.out.k5 sr) Hx.out).mono ?_
          rintro e1 wa ⟨rfl, ka⟩
          go_wp2_with fail
          go_ret
          exact ⟨ret_bool HE2.out.symm, sr.2.2.2.2.2.trans ka⟩
    · obtain rfl : k = n := by omega
      go_wp2_with fail
      go_ret
      refine ⟨ret_bool ?_, sr.2.2.2.2.2⟩
      rw [← hE.out, List.drop_of_length_le (by rw [HN.out]; omega)]
      rfl

theorem edgeListsOf_any (W H : Int) (t : Value) (Ar Ad : Option Addr) (nr cr nd cd : Nat) (w : World) :
    Calls Tryz.prog 73 #[mp W H t (.slice Ar nr cr) (.slice Ad nd cd)] w fun e w' => e = .returned (.agg #[.slice Ar nr cr, .slice Ad nd cd]) ∧ Kp w w' := by
  go_enter Tryz.func73, Tryz.ntmps73
  go_wp2
  exact bodyPost_ret (v := .agg #[.slice Ar nr cr, .slice Ad nd cd]) (by simp [results, Tryz.results73, go_sem]) rfl ⟨rfl, ((Kp.refl _).alloc _).alloc _⟩

/-- What a map's three lists are: slices that read as lists of numbers of 64 bits. -/
structure Lists (w : World) (t r d : Value) (lt lr ld : List Int) : Prop where
  rt : RdI w t lt
  rr : RdI w r lr
  rd : RdI w d ld
  bt : lt.length ≤ 1048576
  br : lr.length ≤ 1048576
  bd : ld.length ≤ 1048576
  it : ∀ x ∈ lt, isI64 x
  ir : ∀ x ∈ lr, isI64 x
  id : ∀ x ∈ ld, isI64 x
theorem Lists.keep {w w' : World} {t r d : Value} {lt lr ld : List Int} (h : Lists w t r d lt lr ld) (k : Kp w w') : Lists w' t r d lt lr ld :=
  ⟨h.rt.keep k, h.rr.keep k, h.rd.keep k, h.bt, h.br, h.bd, h.it, h.ir, h.id⟩

theorem index0 (r d : Value) (w : World) : (Instr.index 100 (.agg #[r, d]) (.int .i64 0)).run Tryz.prog w = .ok r w := by kernel_rfl
theorem index1 (r d : Value) (w : World) : (Instr.index 100 (.agg #[r, d]) (.int .i64 1)).run Tryz.prog w = .ok d w := by kernel_rfl

end Go.Proofs.YtmolpkjdjkhnpaaGreatDoor

/-
  The reference's step in three directions returns what is said, and changes nothing that was there.
-/
namespace Go.Proofs.YtmolpkjdjkhnpaaGreatDoor
open Go.RowKit

set_option maxHeartbeats 4000000 in
theorem hStep_0 (q r : Int) (w : World) (h1 : -1000 ≤ q) (h2 : q ≤ 1000) (h3 : -1000 ≤ r) (h4 : r ≤ 1000) :
    Calls Tryz.prog 96 #[hx q r, .int .i64 0] w fun e w' => e = .returned (hx (q + 1) (r + 0)) ∧ Kp w w' := by
  go_enter Tryz.func96, Tryz.ntmps96
  go_wp2
  go_region
  all_goals
    go_wp2
    exact bodyPost_ret (v := hx (q + 1) (r + 0)) (by simp [results, Tryz.results96, go_sem]) rfl ⟨rfl, (((((Kp.refl _).alloc _).alloc _).alloc _).alloc _).drew⟩
set_option maxHeartbeats 4000000 in
theorem hStep_1 (q r : Int) (w : World) (h1 : -1000 ≤ q) (h2 : q ≤ 1000) (h3 : -1000 ≤ r) (h4 : r ≤ 1000) :
    Calls Tryz.prog 96 #[hx q r, .int .i64 1] w fun e w' => e = .returned (hx (q + 1) (r + -1)) ∧ Kp w w' := by
  go_enter Tryz.func96, Tryz.ntmps96
  go_wp2
  go_region
  all_goals
    go_wp2
    exact bodyPost_ret (v := hx (q + 1) (r + -1)) (by simp [results, Tryz.results96, go_sem]) rfl ⟨rfl, (((((Kp.refl _).alloc _).alloc _).alloc _).alloc _).drew⟩
set_option maxHeartbeats 4000000 in
theorem hStep_2 (q r : Int) (w : World) (h1 : -1000 ≤ q) (h2 : q ≤ 1000) (h3 : -1000 ≤ r) (h4 : r ≤ 1000) :
    Calls Tryz.prog 96 #[hx q r, .int .i64 2] w fun e w' => e = .returned (hx (q + 0) (r + -1)) ∧ Kp w w' := by
  go_enter Tryz.func96, Tryz.ntmps96
  go_wp2
  go_region
  all_goals
    go_wp2
    exact bodyPost_ret (v := hx (q + 0) (r + -1)) (by simp [results, Tryz.results96, go_sem]) rfl ⟨rfl, (((((Kp.refl _).alloc _).alloc _).alloc _).alloc _).drew⟩
end Go.Proofs.YtmolpkjdjkhnpaaGreatDoor

/-
  The reference's step in the other three directions returns what is said, and changes nothing that was there.
-/
namespace Go.Proofs.YtmolpkjdjkhnpaaGreatDoor
open Go.RowKit

set_option maxHeartbeats 4000000 in
theorem hStep_3 (q r : Int) (w : World) (h1 : -1000 ≤ q) (h2 : q ≤ 1000) (h3 : -1000 ≤ r) (h4 : r ≤ 1000) :
    Calls Tryz.prog 96 #[hx q r, .int .i64 3] w fun e w' => e = .returned (hx (q + -1) (r + 0)) ∧ Kp w w' := by
  go_enter Tryz.func96, Tryz.ntmps96
  go_wp2
  go_region
  all_goals
    go_wp2
    exact bodyPost_ret (v := hx (q + -1) (r + 0)) (by simp [results, Tryz.results96, go_sem]) rfl ⟨rfl, (((((Kp.refl _).alloc _).alloc _).alloc _).alloc _).drew⟩
set_option maxHeartbeats 4000000 in
theorem hStep_4 (q r : Int) (w : World) (h1 : -1000 ≤ q) (h2 : q ≤ 1000) (h3 : -1000 ≤ r) (h4 : r ≤ 1000) :
    Calls Tryz.prog 96 #[hx q r, .int .i64 4] w fun e w' => e = .returned (hx (q + -1) (r + 1)) ∧ Kp w w' := by
  go_enter Tryz.func96, Tryz.ntmps96
  go_wp2
  go_region
  all_goals
    go_wp2
    exact bodyPost_ret (v := hx (q + -1) (r + 1)) (by simp [results, Tryz.results96, go_sem]) rfl ⟨rfl, (((((Kp.refl _).alloc _).alloc _).alloc _).alloc _).drew⟩
set_option maxHeartbeats 4000000 in
theorem hStep_5 (q r : Int) (w : World) (h1 : -1000 ≤ q) (h2 : q ≤ 1000) (h3 : -1000 ≤ r) (h4 : r ≤ 1000) :
    Calls Tryz.prog 96 #[hx q r, .int .i64 5] w fun e w' => e = .returned (hx (q + 0) (r + 1)) ∧ Kp w w' := by
  go_enter Tryz.func96, Tryz.ntmps96
  go_wp2
  go_region
  all_goals
    go_wp2
    exact bodyPost_ret (v := hx (q + 0) (r + 1)) (by simp [results, Tryz.results96, go_sem]) rfl ⟨rfl, (((((Kp.refl _).alloc _).alloc _).alloc _).alloc _).drew⟩
end Go.Proofs.YtmolpkjdjkhnpaaGreatDoor

/-
  The reference's step in a direction returns what a plain function on integers says, and changes nothing that was there.
-/
namespace Go.Proofs.YtmolpkjdjkhnpaaGreatDoor
open Go.RowKit

theorem hStep_any (q r d : Int) (w : World) (hd0 : 0 ≤ d) (hd5 : d ≤ 5) (h1 : -1000 ≤ q) (h2 : q ≤ 1000) (h3 : -1000 ≤ r) (h4 : r ≤ 1000) :
    Calls Tryz.prog 96 #[hx q r, .int .i64 d] w fun e w' => e = .returned (hx (q + dirQ d) (r + dirR d)) ∧ Kp w w' := by
  rcases six hd0 hd5 with rfl | rfl | rfl | rfl | rfl | rfl
  · exact hStep_0 q r w h1 h2 h3 h4
  · exact hStep_1 q r w h1 h2 h3 h4
  · exact hStep_2 q r w h1 h2 h3 h4
  · exact hStep_3 q r w h1 h2 h3 h4
  · exact hStep_4 q r w h1 h2 h3 h4
  · exact hStep_5 q r w h1 h2 h3 h4

end Go.Proofs.YtmolpkjdjkhnpaaGreatDoor

/-
  The reference's functions on maps return what plain functions on integers and lists say, and change nothing that was there.
-/
namespace Go.Proofs.YtmolpkjdjkhnpaaGreatDoor
open Go.RowKit

theorem mSize_any (W H : Int) (t r d : Value) (w : World) (a : 1 ≤ W) (b : W ≤ 10) (c : 1 ≤ H) (e : H ≤ 10) :
    Calls Tryz.prog 34 #[mp W H t r d] w fun e w' => e = .returned (.int .i64 (W * H)) ∧ Kp w w' := by
  have hb := area_bd a b c e
  go_enter Tryz.func34, Tryz.ntmps34
  go_wp2
  go_ret
  exact ⟨rfl, (Kp.refl _).alloc _⟩

theorem mHex_any (W H : Int) (t r d : Value) (i : Int) (w : World) (a : 1 ≤ W) (b : W ≤ 10) (h0 : 0 ≤ i) (h1 : i ≤ 100000) :
    Calls Tryz.prog 64 #[mp W H t r d, .int .i64 i] w fun e w' => e = .returned (hx (i % W) (i / W)) ∧ Kp w w' := by
  have hW0 : W ≠ 0 := by omega
  go_enter Tryz.func64, Tryz.ntmps64
  go_wp2
  go_region
  all_goals
    go_wp2
    exact bodyPost_ret (v := hx (i % W) (i / W)) (by simp [results, Tryz.results64, go_sem]) rfl ⟨rfl, (((Kp.refl _).alloc _).alloc _).drew⟩

def orNo (b : Bool) (x : Int) : Int := if b = true then x else -1
theorem orNo_true (x : Int) : orNo true x = x := rfl
theorem orNo_false (x : Int) : orNo false x = -1 := rfl

def inB (n h : Int) : Bool := decide (0 ≤ n) && decide (n < h)
theorem l1In_lt (n h m : Int) (w : World) (hm : m = h - 1) :
    Calls Tryz.prog 59 #[.int .i64 n, .int .i64 0, .int .i64 m] w fun e w' => e = .returned (.bool (inB n h)) ∧ w = w' := by
  have e : inB n h = (decide (0 ≤ n) && decide (n ≤ m)) := by
    unfold inB
    congr 1
    rw [decide_eq_decide]
    omega
  rw [e]
  exact l1In_gen n 0 m w

theorem mIndex_any (W H : Int) (t r d : Value) (hq hr : Int) (w : World) (a : 1 ≤ W) (b : W ≤ 10) (c : 1 ≤ H) (e : H ≤ 10) :
    Calls Tryz.prog 95 #[mp W H t r d, hx hq hr] w fun e w' => e = .returned (.int .i64 (orNo (inM W H hq hr) (idxM W hq hr))) ∧ Kp w w' := by
  cases h1 : inB hq W
  · have hf : inM W H hq hr = false := by unfold inB at h1; simp only [inM, h1, Bool.false_and]
    rw [hf, orNo_false]
    go_enter Tryz.func95, Tryz.ntmps95
    go_wp2_with fail
    refine (l1In_lt _ W _ _ rfl).mono ?_
    rintro e1 w1 ⟨rfl, rfl⟩
    go_wp2_with fail
    go_ret
    exact ⟨rfl, ((Kp.refl _).alloc _).alloc _⟩
  · cases h2 : inB hr H
    · have hf : inM W H hq hr = false := by unfold inB at h2; simp only [inM, h2, Bool.and_false]
      rw [hf, orNo_false]
      go_enter Tryz.func95, Tryz.ntmps95
      go_wp2_with fail
      refine (l1In_lt _ W _ _ rfl).mono ?_
      rintro e1 w1 ⟨rfl, rfl⟩
      go_wp2_with fail
      refine (l1In_lt _ H _ _ rfl).mono ?_
      rintro e1 w1 ⟨rfl, rfl⟩
      go_wp2_with fail
      go_ret
      exact ⟨rfl, ((Kp.refl _).alloc _).alloc _⟩
    · have hf : inM W H hq hr = true := by unfold inB at h1 h2; simp only [inM, h1, h2, Bool.and_self]
      obtain ⟨b1, b2, b3, b4⟩ := inM_true hf
      have hm := mul_bd a b (r := hr) (by omega) (by omega)
      rw [hf, orNo_true]
      unfold idxM
      clear hf
      go_enter Tryz.func95, Tryz.ntmps95
      go_wp2_with fail
      refine (l1In_lt _ W _ _ rfl).mono ?_
      rintro e1 w1 ⟨rfl, rfl⟩
      go_wp2_with fail
      refine (l1In_lt _ H _ _ rfl).mono ?_
      rintro e1 w1 ⟨rfl, rfl⟩
      go_wp2_with fail
      go_ret
      exact ⟨rfl, ((Kp.refl _).alloc _).alloc _⟩

set_option maxHeartbeats 1000000 in
theorem mNext_any (W H : Int) (t r d : Value) (i x : Int) (w : World) (a : 1 ≤ W) (b : W ≤ 10) (c : 1 ≤ H) (e : H ≤ 10) (h0 : 0 ≤ i) (h1 : i < W * H) (d0 : 0 ≤ x) (d5 : x ≤ 5) :
    Calls Tryz.prog 81 #[mp W H t r d, .int .i64 i, .int .i64 x] w fun e w' => e = .returned (.int .i64 (orNo (nbM W H i x) (nbI W i x))) ∧ Kp w w' := by
  have hA := area_bd a b c e
  have bd := dir_bd x
  have hh := hex_bd a b h0 h1
  unfold nbM nbI nbQ nbR
  have s0 := new5 w (.int .i64 W) (.int .i64 H) t r d 36
  have s1 : (w.alloc (.cells #[.int .i64 W, .int .i64 H, t, r, d] 36)).drew.cell? ⟨w.heap.size, 0, none⟩ = some (.int .i64 W) ∧ (w.alloc (.cells #[.int .i64 W, .int .i64 H, t, r, d] 36)).drew.cell? ⟨w.heap.size, 1, none⟩ = some (.int .i64 H) ∧ (w.alloc (.cells #[.int .i64 W, .int .i64 H, t, r, d] 36)).drew.cell? ⟨w.heap.size, 2, none⟩ = some t ∧ (w.alloc (.cells #[.int .i64 W, .int .i64 H, t, r, d] 36)).drew.cell? ⟨w.heap.size, 3, none⟩ = some r ∧ (w.alloc (.cells #[.int .i64 W, .int .i64 H, t, r, d] 36)).drew.cell? ⟨w.heap.size, 4, none⟩ = some d ∧ Kp w (w.alloc (.cells #[.int .i64 W, .int .i64 H, t, r, d] 36)).drew :=
    ⟨s0.1, s0.2.1, s0.2.2.1, s0.2.2.2.1, s0.2.2.2.2.1, s0.2.2.2.2.2.drew⟩
  go_enter Tryz.func81, Tryz.ntmps81
  go_wp2_with fail
  generalize w.alloc (.cells #[.int .i64 W, .int .i64 H, t, r, d] 36) = W0 at *
  go_region_held3 (fun w' => w'.cell? ⟨w.heap.size, 0, none⟩ = some (.int .i64 W) ∧ w'.cell? ⟨w.heap.size, 1, none⟩ = some (.int .i64 H) ∧ w'.cell? ⟨w.heap.size, 2, none⟩ = some t ∧ w'.cell? ⟨w.heap.size, 3, none⟩ = some r ∧ w'.cell? ⟨w.heap.size, 4, none⟩ = some d ∧ Kp w w') (first | assumption | exact s1)
    (first
      | (go_at_call 64; refine (mHex_any _ _ _ _ _ _ _ a b h0 (by omega)).mono ?_; rintro e wc ⟨rfl, kc⟩; have sc := keep5 kc (by assumption))
      | (go_at_call 96; refine (hStep_any _ _ _ _ d0 d5 (by omega) (by omega) (by omega) (by omega)).mono ?_; rintro e wd ⟨rfl, kd⟩; have sd := keep5 kd (by assumption))
      | (go_at_call 95; refine (mIndex_any _ _ _ _ _ _ _ _ a b c e).mono ?_; rintro e3 we ⟨rfl, ke⟩; have se := keep5 ke (by assumption)))
  all_goals
    go_wp2_with fail
    go_ret
    exact ⟨rfl, se.2.2.2.2.2⟩

theorem mEdge_any (W H : Int) (t r d : Value) (i x : Int) (w : World) (a : 1 ≤ W) (b : W ≤ 10) (c : 1 ≤ H) (e : H ≤ 10) (hn : nbB W H i x = true) :
    Calls Tryz.prog 66 #[mp W H t r d, .int .i64 i, .int .i64 x] w fun e w' => e = .returned (.int .i64 (edgI W i x)) ∧ Kp w w' := by
  have hA := area_bd a b c e
  obtain ⟨⟨i0, i1⟩, ⟨x0, x5⟩, n0, n1⟩ := nbB_true hn
  have hm : nbM W H i x = true := by simp only [nbB, Bool.and_eq_true] at hn; exact hn.2.2
  unfold edgI
  by_cases hx : x < 3
  · rw [if_pos hx]
    clear hn
    go_enter Tryz.func66, Tryz.ntmps66
    go_wp2_with fail
    go_ret
    exact ⟨rfl, (Kp.refl _).alloc _⟩
  · rw [if_neg hx]
    clear hn
    go_enter Tryz.func66, Tryz.ntmps66
    go_wp2_with fail
    refine (mNext_any _ _ _ _ _ _ _ _ a b c e i0 i1 x0 x5).mono ?_
    rintro e1 wa ⟨rfl, ka⟩
    rw [hm, orNo_true]
    go_wp2_with fail
    go_ret
    exact ⟨rfl, ((Kp.refl _).alloc _).trans ka⟩

end Go.Proofs.YtmolpkjdjkhnpaaGreatDoor

/-
  The reference's lists of edges return what plain functions on lists say, and change nothing that was there.
-/
namespace Go.Proofs.YtmolpkjdjkhnpaaGreatDoor
open Go.RowKit

/-- p stands ahead of place k of the list. -/
def Ahead (l : List Int) (k : Nat) (p : Int) : Prop := (k = 0 ∧ p = -1) ∨ ∃ j, k = j + 1 ∧ l[j]? = some p

theorem rise_no {p x : Int} {l : List Int} (h : ¬ p < x) : riseFrom p (x :: l) = false := by simp [riseFrom, h]
theorem rise_go {p x : Int} {l : List Int} (h : p < x) : riseFrom p (x :: l) = riseFrom x l := by simp [riseFrom, h]

theorem l1Rising_any (v : Value) (l : List Int) (hi : Int) (w : World) (h : RdI w v l) (hl : l.length ≤ 1048576) (hin : ∀ x ∈ l, 0 ≤ x ∧ x ≤ hi) :
    Calls Tryz.prog 82 #[v, .int .i64 0, .int .i64 hi] w fun e w' => e = .returned (.bool (riseFrom (-1) l)) ∧ w = w' := by
  obtain ⟨A, cp, rfl, h⟩ := h
  have HA := Lib.hid h
  have CI : ∀ n w, n ∈ l → Calls Tryz.prog 59 #[.int .i64 n, .int .i64 0, .int .i64 hi] w fun e w' => e = .returned (.bool true) ∧ w = w' := fun n w hn => by
    have e : (decide (0 ≤ n) && decide (n ≤ hi)) = true := by simp [hin n hn]
    rw [← e]
    exact l1In_gen n 0 hi w
  have HC := Lib.hid CI
  have HI := Lib.hid hin
  obtain ⟨R, hR⟩ : ∃ R, R = riseFrom (-1) l := ⟨_, rfl⟩
  rw [← hR]
  have HR := Lib.hid hR
  clear h hR CI hin
  generalize hn : l.length = n at *
  have HN := Lib.hid hn
  clear hn
  go_enter Tryz.func82, Tryz.ntmps82
  go_wp2_with fail
  go_loop [7, 8, 11] (fun _ _ i => ∃ (k : Nat) (p : Int), k ≤ n ∧ i = .int .i64 k ∧ Hid (Ahead l k p ∧ riseFrom p (l.drop k) = R)) (fun _ _ i => n - (intOf i).toNat)
  case atStart => exact ⟨0, -1, by omega, rfl, Lib.hid ⟨.inl ⟨rfl, rfl⟩, HR.out.symm⟩⟩
  case round =>
    obtain ⟨k, p, hk, rfl, hE⟩ := hrel
    by_cases hlt : k < n
    · obtain ⟨g, off, rfl, hc⟩ := HA.out (by omega)
      obtain ⟨x, hx⟩ : ∃ x, l[k]? = some x := ⟨l[k]'(by have := HN.out; omega), List.getElem?_eq_getElem _⟩
      have a0 := hc k x hx
      have HX := Lib.hid (drop_step hx)
      have Hm := Lib.hid (List.mem_of_getElem? hx)
      have hx0 := HI.out x Hm.out
      have HXk := Lib.hid hx
      clear hx
      have hlt' : (k : Int) < n := by omega
      have hA := hE.out.1
      rcases hA with ⟨rfl, rfl⟩ | ⟨j, rfl, hj⟩
      · have HE2 : Hid (Ahead l 1 x ∧ riseFrom x (l.drop 1) = R) := Lib.hid ⟨.inr ⟨0, rfl, HXk.out⟩, by
          rw [← hE.out.2, HX.out]
          exact (rise_go (by omega)).symm⟩
        clear hc
        rw [Nat.add_zero] at a0
        go_wp2_with fail
        refine (HC.out _ _ Hm.out).mono ?_
        rintro e1 wy ⟨rfl, rfl⟩
        go_wp2_with fail
        go_round
        case rel => exact ⟨1, x, by omega, by go_num, HE2⟩
        case measure => simp [intOf]; omega
      · have a1 := hc j p hj
        clear hc hj
        have hj0 : (0 : Int) < (j : Int) + 1 := by omega
        have hj1 : (j : Int) < n := by omega
        by_cases hp : p < x
        · have hp' : decide (x ≤ p) = false := by simp; omega
          have HE2 : Hid (Ahead l (j + 1 + 1) x ∧ riseFrom x (l.drop (j + 1 + 1)) = R) := Lib.hid ⟨.inr ⟨j + 1, rfl, HXk.out⟩, by
            rw [← hE.out.2, HX.out]
            exact (rise_go hp).symm⟩
          go_wp2_with fail
          refine (HC.out _ _ Hm.out).mono ?_
          rintro e1 wy ⟨rfl, rfl⟩
          go_wp2_with fail
          go_round
          case rel => exact ⟨j + 1 + 1, x, by omega, by go_num, HE2⟩
          case measure => simp [intOf]; omega
        · have hp' : x ≤ p := by omega
          have HE2 : Hid (R = false) := Lib.hid (by rw [← hE.out.2, HX.out]; exact rise_no hp)
          go_wp2_with fail
          refine (HC.out _ _ Hm.out).mono ?_
          rintro e1 wy ⟨rfl, rfl⟩
          go_wp2_with fail
          go_ret
          exact ⟨ret_bool HE2.out.symm, rfl⟩
    · obtain rfl : k = n := by omega
      go_wp2_with fail
      go_ret
      refine ⟨ret_bool ?_, rfl⟩
      rw [← hE.out.2, List.drop_of_length_le (by rw [HN.out]; omega)]
      rfl

theorem edgeB_out {W H e : Int} (h : inB e (3 * (W * H)) = false) : edgeB W H e = false := by
  by_cases h0 : 0 ≤ e
  · refine edgeB_big ?_ h0
    simp [inB, h0] at h
    exact h
  · exact edgeB_neg (by omega)
theorem inB_true {n h : Int} (hh : inB n h = true) : 0 ≤ n ∧ n < h := by simpa [inB] using hh
theorem edgeB_true {W H e : Int} (h : edgeB W H e = true) : inB e (3 * (W * H)) = true := by
  cases hi : inB e (3 * (W * H))
  · rw [edgeB_out hi] at h
    cases h
  · rfl

set_option maxHeartbeats 1000000 in
theorem mEdges_any (W H : Int) (t r d v : Value) (l : List Int) (w : World) (a : 1 ≤ W) (b : W ≤ 10) (c : 1 ≤ H) (e : H ≤ 10) (h : RdI w v l) (hl : l.length ≤ 1048576) :
    Calls Tryz.prog 63 #[mp W H t r d, v] w fun e w' => e = .returned (.bool (edgesOk W H l)) ∧ Kp w w' := by
  have HRd := Lib.hid h
  obtain ⟨A, cp, rfl, h⟩ := h
  have HA := Lib.hid h
  have hA := area_bd a b c e
  rw [edgesOk_eq]
  obtain ⟨R, hR⟩ : ∃ R, R = l.all (edgeB W H) := ⟨_, rfl⟩
  rw [← hR]
  have HR := Lib.hid hR
  obtain ⟨R1, hR1⟩ : ∃ R, R = riseFrom (-1) l := ⟨_, rfl⟩
  rw [← hR1]
  have HR1 := Lib.hid hR1
  have HLn := Lib.hid hl
  clear h hR hR1
  generalize hn : l.length = n at *
  have HN := Lib.hid hn
  clear hn
  have s0 := new5 w (.int .i64 W) (.int .i64 H) t r d 36
  go_enter Tryz.func63, Tryz.ntmps63
  go_wp2_with fail
  go_loopw [6, 9] (fun _ i wr => ∃ k : Nat, k ≤ n ∧ i = .int .i64 k ∧ Hid ((l.drop k).all (edgeB W H) = R) ∧
    (wr.cell? ⟨w.heap.size, 0, none⟩ = some (.int .i64 W) ∧ wr.cell? ⟨w.heap.size, 1, none⟩ = some (.int .i64 H) ∧ wr.cell? ⟨w.heap.size, 2, none⟩ = some t ∧ wr.cell? ⟨w.heap.size, 3, none⟩ = some r ∧ wr.cell? ⟨w.heap.size, 4, none⟩ = some d ∧ Kp w wr)) (fun _ i _ => n - (intOf i).toNat)
  case atStart => exact ⟨0, by omega, rfl, Lib.hid HR.out.symm, s0⟩
  case round =>
    clear s0
    obtain ⟨k, hk, rfl, hE, sr⟩ := hrel
    by_cases hlt : k < n
    · obtain ⟨g, off, rfl, hc⟩ := HA.out (by omega)
      obtain ⟨x, hx⟩ : ∃ x, l[k]? = some x := ⟨l[k]'(by have := HN.out; omega), List.getElem?_eq_getElem _⟩
      have a0 := sr.2.2.2.2.2.cell (hc k x hx)
      have HX := Lib.hid (drop_step hx)
      clear hc hx
      have hlt' : (k : Int) < n := by omega
      cases hin : inB x (3 * (W * H))
      · have HE2 : Hid (R = false) := Lib.hid (by rw [← hE.out, HX.out]; exact all_no (edgeB_out hin))
        go_wp2_with fail
        refine (mSize_any _ _ _ _ _ _ a b c e).mono ?_
        rintro e1 wa ⟨rfl, ka⟩
        go_wp2_with fail
        refine (l1In_lt _ (3 * (W * H)) _ _ rfl).mono ?_
        rintro e2 wb ⟨rfl, rfl⟩
        go_wp2_with fail
        go_ret
        exact ⟨ret_bool (by rw [HE2.out]; rfl), sr.2.2.2.2.2.trans ka⟩
      · obtain ⟨x0, x1⟩ := inB_true hin
        have q0 : 0 ≤ x / 3 := by omega
        have q1 : x / 3 < W * H := by omega
        have q2 : 0 ≤ x % 3 := by omega
        have q3 : x % 3 ≤ 5 := by omega
        cases hok : nbM W H (x / 3) (x % 3)
        · have HE2 : Hid (R = false) := Lib.hid (by rw [← hE.out, HX.out]; exact all_no ((edgeB_in x0 x1).trans hok))
          go_wp2_with fail
          refine (mSize_any _ _ _ _ _ _ a b c e).mono ?_
          rintro e1 wa ⟨rfl, ka⟩
          have sa := keep5 ka sr
          clear sr
          go_wp2_with fail
          refine (l1In_lt _ (3 * (W * H)) _ _ rfl).mono ?_
          rintro e2 wb ⟨rfl, rfl⟩
          go_wp2_with fail
          refine (mNext_any _ _ _ _ _ _ _ _ a b c e q0 q1 q2 q3).mono ?_
          rintro e3 wc ⟨rfl, kc⟩
          rw [hok, orNo_false]
          go_wp2_with fail
          go_ret
          exact ⟨ret_bool (by rw [HE2.out]; rfl), sa.2.2.2.2.2.trans kc⟩
        · have HE2 : Hid ((l.drop (k + 1)).all (edgeB W H) = R) := Lib.hid (by rw [← hE.out, HX.out]; exact (all_go ((edgeB_in x0 x1).trans hok)).symm)
          have n0 : 0 ≤ nbI W (x / 3) (x % 3) := (idx_bd hok).1
          go_wp2_with fail
          refine (mSize_any _ _ _ _ _ _ a b c e).mono ?_
          rintro e1 wa ⟨rfl, ka⟩
          have sa := keep5 ka sr
          clear sr
          go_wp2_with fail
          refine (l1In_lt _ (3 * (W * H)) _ _ rfl).mono ?_
          rintro e2 wb ⟨rfl, rfl⟩
          go_wp2_with fail
          refine (mNext_any _ _ _ _ _ _ _ _ a b c e q0 q1 q2 q3).mono ?_
          rintro e3 wc ⟨rfl, kc⟩
          have sc := keep5 kc sa
          clear sa
          rw [hok, orNo_true]
          go_wp2_with fail
          go_roundw
          case rel => exact ⟨k + 1, by omega, by go_num, HE2, sc⟩
          case measure => simp [intOf]; omega
    · obtain rfl : k = n := by omega
      have hRt : R = true := by
        rw [← hE.out, List.drop_of_length_le (by rw [HN.out]; omega)]
        rfl
      have hin : ∀ x ∈ l, 0 ≤ x ∧ x ≤ 3 * (W * H) - 1 := fun x hx => by
        have h1 := HR.out.symm.trans hRt
        rw [List.all_eq_true] at h1
        have := inB_true (edgeB_true (h1 x hx))
        omega
      have HI := Lib.hid hin
      subst hRt
      clear hin
      go_wp2_with fail
      refine (mSize_any _ _ _ _ _ _ a b c e).mono ?_
      rintro e1 wa ⟨rfl, ka⟩
      have sa := keep5 ka sr
      clear sr
      go_wp2_with fail
      refine (l1Rising_any _ l _ _ (HRd.out.keep sa.2.2.2.2.2) (by have := HN.out; omega) HI.out).mono ?_
      rintro e2 wb ⟨rfl, rfl⟩
      go_wp2_with fail
      go_ret
      exact ⟨ret_bool (by rw [HR1.out]; rfl), sa.2.2.2.2.2⟩

end Go.Proofs.YtmolpkjdjkhnpaaGreatDoor

/-
  The program's test of a map returns what a plain function on lists says, and changes nothing that was there. The table of directions holds what the program's text lays.
-/
namespace Go.Proofs.YtmolpkjdjkhnpaaGreatDoor
open Go.RowKit

theorem drew5 {W0 w : World} {b : Nat} {v0 v1 v2 v3 v4 : Value}
    (h : w.cell? ⟨b, 0, none⟩ = some v0 ∧ w.cell? ⟨b, 1, none⟩ = some v1 ∧ w.cell? ⟨b, 2, none⟩ = some v2 ∧ w.cell? ⟨b, 3, none⟩ = some v3 ∧ w.cell? ⟨b, 4, none⟩ = some v4 ∧ Kp W0 w) :
    w.drew.cell? ⟨b, 0, none⟩ = some v0 ∧ w.drew.cell? ⟨b, 1, none⟩ = some v1 ∧ w.drew.cell? ⟨b, 2, none⟩ = some v2 ∧ w.drew.cell? ⟨b, 3, none⟩ = some v3 ∧ w.drew.cell? ⟨b, 4, none⟩ = some v4 ∧ Kp W0 w.drew :=
  ⟨h.1, h.2.1, h.2.2.1, h.2.2.2.1, h.2.2.2.2.1, h.2.2.2.2.2.drew⟩

theorem isSide_q (n : Int) (w : World) : Calls Tryz.prog 71 #[.int .i64 n] w fun e w' => e = .returned (.bool (sideB n)) ∧ w' = w :=
  (isSide_any n w).mono fun _ _ ⟨he, hw⟩ => ⟨he, hw.symm⟩

theorem isMap_no1 (W H : Int) (At : Option Addr) (nt ct : Nat) (r d : Value) (w : World) (h : sideB W = false) :
    Calls Tryz.prog 41 #[mp W H (.slice At nt ct) r d] w fun e w' => e = .returned (.bool false) ∧ Kp w w' := by
  go_enter Tryz.func41, Tryz.ntmps41
  go_wp2_with fail
  go_quiet ((go_at_call 71; exact Calls.quiet_of_same (isSide_q _ _)))
  go_wp2_with fail
  go_ret
  exact ⟨rfl, ((Kp.refl _).alloc _).drewN _⟩

theorem isMap_no2 (W H : Int) (At : Option Addr) (nt ct : Nat) (r d : Value) (w : World) (h : sideB W = true) (h' : sideB H = false) :
    Calls Tryz.prog 41 #[mp W H (.slice At nt ct) r d] w fun e w' => e = .returned (.bool false) ∧ Kp w w' := by
  go_enter Tryz.func41, Tryz.ntmps41
  go_wp2_with fail
  go_quiet ((go_at_call 71; exact Calls.quiet_of_same (isSide_q _ _)))
  go_wp2_with fail
  go_ret
  exact ⟨rfl, ((Kp.refl _).alloc _).drewN _⟩

set_option maxHeartbeats 2000000 in
theorem isMap_no3 (W H : Int) (At : Option Addr) (nt ct : Nat) (r d : Value) (w : World) (h : sideB W = true) (h' : sideB H = true) (hn : ¬ (nt : Int) = W * H) :
    Calls Tryz.prog 41 #[mp W H (.slice At nt ct) r d] w fun e w' => e = .returned (.bool false) ∧ Kp w w' := by
  have s0 := new5 w (.int .i64 W) (.int .i64 H) (.slice At nt ct) r d 36
  obtain ⟨a, b⟩ := sideB_true h
  obtain ⟨c, e⟩ := sideB_true h'
  have hne : ((nt : Int) != W * H) = true := by simpa using hn
  go_enter Tryz.func41, Tryz.ntmps41
  go_wp2_with fail
  generalize w.alloc (.cells #[.int .i64 W, .int .i64 H, .slice At nt ct, r, d] 36) = W0 at *
  have s1 := drew5 s0
  go_region_held3 (fun w' => w'.cell? ⟨w.heap.size, 0, none⟩ = some (.int .i64 W) ∧ w'.cell? ⟨w.heap.size, 1, none⟩ = some (.int .i64 H) ∧ w'.cell? ⟨w.heap.size, 2, none⟩ = some (.slice At nt ct) ∧ w'.cell? ⟨w.heap.size, 3, none⟩ = some r ∧ w'.cell? ⟨w.heap.size, 4, none⟩ = some d ∧ Kp w w') (first | assumption | exact s1)
    (first
      | (go_at_call 71; refine (isSide_any _ _).mono ?_; rintro e wz ⟨rfl, rfl⟩)
      | (go_at_call 42; refine (countHexes_any _ _ _ _ _ _ a b c e).mono ?_; rintro e2 wz ⟨rfl, kz⟩; have sz := keep5 kz (by assumption)))
  all_goals
    go_wp2_with fail
    go_ret
    exact ⟨rfl, sz.2.2.2.2.2⟩

set_option maxHeartbeats 4000000 in
theorem isMap_yes (W H : Int) (t r d : Value) (lt lr ld : List Int) (w : World) (ht : Tab w) (hL : Lists w t r d lt lr ld) (h : sideB W = true) (h' : sideB H = true) (hn : (lt.length : Int) = W * H) :
    Calls Tryz.prog 41 #[mp W H t r d] w fun e w' => e = .returned (.bool (lt.all terrB && (edgesOk W H lr && edgesOk W H ld))) ∧ Kp w w' := by
  obtain ⟨a, b⟩ := sideB_true h
  obtain ⟨c, e⟩ := sideB_true h'
  have hA := area_bd a b c e
  have HL := Lib.hid hL
  have HT := Lib.hid ht
  obtain ⟨At, ct, rfl, HAt⟩ := hL.rt
  obtain ⟨Ar, cr, rfl, _⟩ := hL.rr
  obtain ⟨Ad, cd, rfl, _⟩ := hL.rd
  have HA := Lib.hid HAt
  have h1048 := hL.bt
  obtain ⟨R, hR⟩ : ∃ R, R = lt.all terrB := ⟨_, rfl⟩
  obtain ⟨R1, hR1⟩ : ∃ R, R = edgesOk W H lr := ⟨_, rfl⟩
  obtain ⟨R2, hR2⟩ : ∃ R, R = edgesOk W H ld := ⟨_, rfl⟩
  rw [← hR, ← hR1, ← hR2]
  have HR := Lib.hid hR
  have HR1 := Lib.hid hR1
  have HR2 := Lib.hid hR2
  have hne : ((lt.length : Int) != W * H) = false := by simpa using hn
  clear HAt hL ht hn hR hR1 hR2
  generalize hn : lt.length = nt at *
  have HN := Lib.hid hn
  clear hn
  generalize lr.length = nr at *
  generalize ld.length = nd at *
  have s0 := new5 w (.int .i64 W) (.int .i64 H) (.slice At nt ct) (.slice Ar nr cr) (.slice Ad nd cd) 36
  go_enter Tryz.func41, Tryz.ntmps41
  go_wp2_with fail
  generalize w.alloc (.cells #[.int .i64 W, .int .i64 H, .slice At nt ct, .slice Ar nr cr, .slice Ad nd cd] 36) = W0 at *
  have s1 := drew5 s0
  go_region_held3 (fun w' => w'.cell? ⟨w.heap.size, 0, none⟩ = some (.int .i64 W) ∧ w'.cell? ⟨w.heap.size, 1, none⟩ = some (.int .i64 H) ∧ w'.cell? ⟨w.heap.size, 2, none⟩ = some (.slice At nt ct) ∧ w'.cell? ⟨w.heap.size, 3, none⟩ = some (.slice Ar nr cr) ∧ w'.cell? ⟨w.heap.size, 4, none⟩ = some (.slice Ad nd cd) ∧ Kp w w') (first | assumption | exact s1)
    (first
      | (go_at_call 71; refine (isSide_any _ _).mono ?_; rintro e wz ⟨rfl, rfl⟩)
      | (go_at_call 42; refine (countHexes_any _ _ _ _ _ _ a b c e).mono ?_; rintro e2 wz ⟨rfl, kz⟩; have sz := keep5 kz (by assumption)))
  clear s0 s1 hne
  go_wp2_with fail
  go_loop [4, 28] (fun _ i => ∃ k : Nat, k ≤ nt ∧ i = .int .i64 k ∧ Hid ((lt.drop k).all terrB = R)) (fun _ i => nt - (intOf i).toNat)
  case atStart => exact ⟨0, by omega, rfl, Lib.hid HR.out.symm⟩
  case round =>
    obtain ⟨k, hk, rfl, hE⟩ := hrel
    by_cases hlt : k < nt
    · obtain ⟨g, off, rfl, hc⟩ := HA.out (by omega)
      obtain ⟨x, hx⟩ : ∃ x, lt[k]? = some x := ⟨lt[k]'(by have := HN.out; omega), List.getElem?_eq_getElem _⟩
      have a0 := sz.2.2.2.2.2.cell (hc k x hx)
      have HX := Lib.hid (drop_step hx)
      clear hc hx
      have hlt' : (k : Int) < nt := by omega
      cases hok : terrB x
      · go_wp2_with fail
        refine (isTerrain_any _ _).mono ?_
        rintro e1 wy ⟨rfl, rfl⟩
        go_wp2_with fail
        go_ret
        have e : R = false := by rw [← hE.out, HX.out]; exact all_no hok
        exact ⟨ret_bool (by rw [e]; rfl), sz.2.2.2.2.2⟩
      · have HE2 : Hid ((lt.drop (k + 1)).all terrB = R) := Lib.hid (by rw [← hE.out, HX.out]; exact (all_go hok).symm)
        go_wp2_with fail
        refine (isTerrain_any _ _).mono ?_
        rintro e1 wy ⟨rfl, rfl⟩
        go_wp2_with fail
        go_round
        case rel => exact ⟨k + 1, by omega, by go_num, HE2⟩
        case measure => simp [intOf]; omega
    · obtain rfl : k = nt := by omega
      have hRt : R = true := by
        rw [← hE.out, List.drop_of_length_le (by rw [HN.out]; omega)]
        rfl
      have i0 := index0 (.slice Ar nr cr) (.slice Ad nd cd)
      have i1 := index1 (.slice Ar nr cr) (.slice Ad nd cd)
      subst hRt
      go_wp2_with fail
      refine (edgeListsOf_any _ _ _ _ _ _ _ _ _ _).mono ?_
      rintro e1 wy ⟨rfl, ky⟩
      have sy := keep5 ky sz
      clear sz ky
      go_wp2_with fail
      go_loopw [6, 38] (fun _ i wr => ∃ j : Nat, j ≤ 2 ∧ i = .int .i64 j ∧ Hid ((1 ≤ j → R1 = true) ∧ (2 ≤ j → R2 = true)) ∧
        (wr.cell? ⟨w.heap.size, 0, none⟩ = some (.int .i64 W) ∧ wr.cell? ⟨w.heap.size, 1, none⟩ = some (.int .i64 H) ∧ wr.cell? ⟨w.heap.size, 2, none⟩ = some (.slice At k ct) ∧ wr.cell? ⟨w.heap.size, 3, none⟩ = some (.slice Ar nr cr) ∧ wr.cell? ⟨w.heap.size, 4, none⟩ = some (.slice Ad nd cd) ∧ Kp w wr)) (fun _ i _ => 2 - (intOf i).toNat)
      case atStart => exact ⟨0, by omega, rfl, Lib.hid ⟨fun h => absurd h (by omega), fun h => absurd h (by omega)⟩, sy⟩
      case round =>
        clear sy
        obtain ⟨j, hj, rfl, hJ, sr⟩ := hrel
        match j, hj with
        | 0, _ =>
          have HLr := Lib.hid (HL.out.keep sr.2.2.2.2.2)
          cases hr1 : R1
          · have HZ : Hid (edgesOk W H lr = false) := Lib.hid (by rw [← HR1.out, hr1])
            go_wp2_with fail
            refine (areEdges_any _ _ _ _ _ _ lr _ a b c e (HT.out.k5 sr) HLr.out.rr HLr.out.ir HLr.out.br).mono ?_
            rintro e1 wx ⟨rfl, kx⟩
            rw [HZ.out]
            go_wp2_with fail
            go_ret
            exact ⟨ret_bool (by simp [*]), sr.2.2.2.2.2.trans kx⟩
          · have HZ : Hid (edgesOk W H lr = true) := Lib.hid (by rw [← HR1.out, hr1])
            go_wp2_with fail
            refine (areEdges_any _ _ _ _ _ _ lr _ a b c e (HT.out.k5 sr) HLr.out.rr HLr.out.ir HLr.out.br).mono ?_
            rintro e1 wx ⟨rfl, kx⟩
            have sx := keep5 kx sr
            rw [HZ.out]
            go_wp2_with fail
            go_roundw
            case rel => exact ⟨1, by omega, rfl, Lib.hid ⟨fun _ => by first | trivial | assumption, fun h => absurd h (by omega)⟩, sx⟩
            case measure => simp [intOf]
        | 1, _ =>
          have HLr := Lib.hid (HL.out.keep sr.2.2.2.2.2)
          have hr1 := hJ.out.1 (by omega)
          subst hr1
          cases hr2 : R2
          · have HZ : Hid (edgesOk W H ld = false) := Lib.hid (by rw [← HR2.out, hr2])
            go_wp2_with fail
            refine (areEdges_any _ _ _ _ _ _ ld _ a b c e (HT.out.k5 sr) HLr.out.rd HLr.out.id HLr.out.bd).mono ?_
            rintro e1 wx ⟨rfl, kx⟩
            rw [HZ.out]
            go_wp2_with fail
            go_ret
            exact ⟨ret_bool (by simp [*]), sr.2.2.2.2.2.trans kx⟩
          · have HZ : Hid (edgesOk W H ld = true) := Lib.hid (by rw [← HR2.out, hr2])
            go_wp2_with fail
            refine (areEdges_any _ _ _ _ _ _ ld _ a b c e (HT.out.k5 sr) HLr.out.rd HLr.out.id HLr.out.bd).mono ?_
            rintro e1 wx ⟨rfl, kx⟩
            have sx := keep5 kx sr
            rw [HZ.out]
            go_wp2_with fail
            go_roundw
            case rel => exact ⟨2, by omega, rfl, Lib.hid ⟨fun _ => by first | trivial | rfl, fun _ => by first | trivial | assumption⟩, sx⟩
            case measure => simp [intOf]
        | 2, _ =>
          have hr1 := hJ.out.1 (by omega)
          have hr2 := hJ.out.2 (by omega)
          subst hr1
          subst hr2
          go_wp2_with fail
          go_ret
          exact ⟨ret_bool rfl, sr.2.2.2.2.2⟩

theorem isMap_any (W H : Int) (t r d : Value) (lt lr ld : List Int) (w : World) (ht : Tab w) (hL : Lists w t r d lt lr ld) :
    Calls Tryz.prog 41 #[mp W H t r d] w fun e w' => e = .returned (.bool (mapOk W H lt lr ld)) ∧ Kp w w' := by
  cases h : sideB W
  · obtain ⟨At, ct, rfl, _⟩ := hL.rt
    have e : mapOk W H lt lr ld = false := by simp [mapOk, h]
    rw [e]
    exact isMap_no1 W H _ _ _ r d w h
  · cases h' : sideB H
    · obtain ⟨At, ct, rfl, _⟩ := hL.rt
      have e : mapOk W H lt lr ld = false := by simp [mapOk, h']
      rw [e]
      exact isMap_no2 W H _ _ _ r d w h h'
    · by_cases hn : (lt.length : Int) = W * H
      · have e : mapOk W H lt lr ld = (lt.all terrB && (edgesOk W H lr && edgesOk W H ld)) := by simp [mapOk, h, h', hn]
        rw [e]
        exact isMap_yes W H t r d lt lr ld w ht hL h h' hn
      · obtain ⟨At, ct, rfl, _⟩ := hL.rt
        have e : mapOk W H lt lr ld = false := by simp [mapOk, hn]
        rw [e]
        exact isMap_no3 W H _ _ _ r d w h h' hn

end Go.Proofs.YtmolpkjdjkhnpaaGreatDoor

/-
  The reference's test of a map returns what a plain function on lists says, and changes nothing that was there.
-/
namespace Go.Proofs.YtmolpkjdjkhnpaaGreatDoor
open Go.RowKit

theorem l1In_side (n : Int) (w : World) : Calls Tryz.prog 59 #[.int .i64 n, .int .i64 1, .int .i64 10] w fun e w' => e = .returned (.bool (sideB n)) ∧ w = w' := l1In_gen n 1 10 w
theorem l1In_side_q (n : Int) (w : World) : Calls Tryz.prog 59 #[.int .i64 n, .int .i64 1, .int .i64 10] w fun e w' => e = .returned (.bool (sideB n)) ∧ w' = w :=
  (l1In_gen n 1 10 w).mono fun _ _ ⟨he, hw⟩ => ⟨he, hw.symm⟩
theorem l1All_terr (v : Value) (l : List Int) (w : World) (h : RdI w v l) (hl : l.length ≤ 1048576) :
    Calls Tryz.prog 32 #[v, .int .i64 0, .int .i64 5] w fun e w' => e = .returned (.bool (l.all terrB)) ∧ w = w' := l1All_any v l 0 5 w h hl
theorem Lists.k5 {w w' : World} {b : Nat} {v0 v1 v2 v3 v4 t r d : Value} {lt lr ld : List Int} (hL : Lists w t r d lt lr ld)
    (h : w'.cell? ⟨b, 0, none⟩ = some v0 ∧ w'.cell? ⟨b, 1, none⟩ = some v1 ∧ w'.cell? ⟨b, 2, none⟩ = some v2 ∧ w'.cell? ⟨b, 3, none⟩ = some v3 ∧ w'.cell? ⟨b, 4, none⟩ = some v4 ∧ Kp w w') : Lists w' t r d lt lr ld := hL.keep h.2.2.2.2.2

theorem mGood_no1 (W H : Int) (At Ar Ad : Option Addr) (nt ct nr cr nd cd : Nat) (w : World) (h : sideB W = false) :
    Calls Tryz.prog 31 #[mp W H (.slice At nt ct) (.slice Ar nr cr) (.slice Ad nd cd)] w fun e w' => e = .returned (.bool false) ∧ Kp w w' := by
  go_enter Tryz.func31, Tryz.ntmps31
  go_wp2_with fail
  go_quiet ((go_at_call 59; exact Calls.quiet_of_same (l1In_side_q _ _)))
  go_wp2_with fail
  go_ret
  exact ⟨rfl, ((Kp.refl _).alloc _).drewN _⟩

theorem mGood_no2 (W H : Int) (At Ar Ad : Option Addr) (nt ct nr cr nd cd : Nat) (w : World) (h : sideB W = true) (h' : sideB H = false) :
    Calls Tryz.prog 31 #[mp W H (.slice At nt ct) (.slice Ar nr cr) (.slice Ad nd cd)] w fun e w' => e = .returned (.bool false) ∧ Kp w w' := by
  go_enter Tryz.func31, Tryz.ntmps31
  go_wp2_with fail
  go_quiet ((go_at_call 59; exact Calls.quiet_of_same (l1In_side_q _ _)))
  go_wp2_with fail
  go_ret
  exact ⟨rfl, ((Kp.refl _).alloc _).drewN _⟩

set_option maxHeartbeats 4000000 in
theorem mGood_no3 (W H : Int) (At Ar Ad : Option Addr) (nt ct nr cr nd cd : Nat) (lt lr ld : List Int) (w : World) (hL : Lists w (.slice At nt ct) (.slice Ar nr cr) (.slice Ad nd cd) lt lr ld) (h : sideB W = true) (h' : sideB H = true) (hn : ¬ (nt : Int) = W * H) :
    Calls Tryz.prog 31 #[mp W H (.slice At nt ct) (.slice Ar nr cr) (.slice Ad nd cd)] w fun e w' => e = .returned (.bool false) ∧ Kp w w' := by
  have s0 := new5 w (.int .i64 W) (.int .i64 H) (.slice At nt ct) (.slice Ar nr cr) (.slice Ad nd cd) 36
  obtain ⟨a, b⟩ := sideB_true h
  obtain ⟨c, e⟩ := sideB_true h'
  have HL := Lib.hid hL
  clear hL
  have hne : ((nt : Int) == W * H) = false := by simpa using hn
  clear hn
  go_enter Tryz.func31, Tryz.ntmps31
  go_wp2_with fail
  generalize w.alloc (.cells #[.int .i64 W, .int .i64 H, .slice At nt ct, .slice Ar nr cr, .slice Ad nd cd] 36) = W0 at *
  have s1 := drew5 s0
  refine wp_region_held_drew (S := (fun w' => w'.cell? ⟨w.heap.size, 0, none⟩ = some (.int .i64 W) ∧ w'.cell? ⟨w.heap.size, 1, none⟩ = some (.int .i64 H) ∧ w'.cell? ⟨w.heap.size, 2, none⟩ = some (.slice At nt ct) ∧ w'.cell? ⟨w.heap.size, 3, none⟩ = some (.slice Ar nr cr) ∧ w'.cell? ⟨w.heap.size, 4, none⟩ = some (.slice Ad nd cd) ∧ Kp w w')) (by kernel_rfl) ?_ (fun hHeld => ?_)
  · exact s1
  refine wpAnyH_take (i := 0) (oi := ⟨some 3, _, _, _, _, _⟩) (v := ?_) rfl (by kernel_rfl) (by kernel_rfl) (by kernel_rfl) (fun _ _ _ h => h) (Or.inl ⟨by rfl, ?_⟩) (by assumption) ?_
  rotate_left
  · intro w hSw; (try dsimp only at hSw); go_simp; (all_goals with_reducible rfl)
  simp only [Act.put, List.setIfInBounds_toArray, List.set_cons_zero, List.set_cons_succ]
  refine wpAnyH_take (i := 1) (oi := ⟨some 4, _, _, _, _, _⟩) (v := ?_) rfl (by kernel_rfl) (by kernel_rfl) (by kernel_rfl) (fun _ _ _ h => h) (Or.inl ⟨by rfl, ?_⟩) (by assumption) ?_
  rotate_left
  · intro w hSw; (try dsimp only at hSw); go_simp; (all_goals with_reducible rfl)
  simp only [Act.put, List.setIfInBounds_toArray, List.set_cons_zero, List.set_cons_succ]
  refine wpAnyH_ready (rs := [2]) (by kernel_rfl) (by simp) ?_
  refine AllReadyH.cons (o := ⟨some 5, _, _, _, _, _⟩) rfl (fun K hK => ?_) AllReadyH.nil
  go_simp
  refine (l1In_side _ _).mono ?_; rintro e1 wz ⟨rfl, rfl⟩
  go_wp2_with fail
  refine hK.out _ _ ?_ (fun hHeld => ?_)
  · (try dsimp only); (first | assumption | exact s1)
  clear hK K
  try simp only [Act.put, List.setIfInBounds_toArray, List.set_cons_zero, List.set_cons_succ]
  refine wpAnyH_take (i := 3) (oi := ⟨some 6, _, _, _, _, _⟩) (v := ?_) rfl (by kernel_rfl) (by kernel_rfl) (by kernel_rfl) (fun _ _ _ h => h) (Or.inl ⟨by rfl, ?_⟩) (by assumption) ?_
  rotate_left
  · intro w hSw; (try dsimp only at hSw); go_simp; (all_goals with_reducible rfl)
  simp only [Act.put, List.setIfInBounds_toArray, List.set_cons_zero, List.set_cons_succ]
  refine wpAnyH_take (i := 4) (oi := ⟨some 7, _, _, _, _, _⟩) (v := ?_) rfl (by kernel_rfl) (by kernel_rfl) (by kernel_rfl) (fun _ _ _ h => h) (Or.inl ⟨by rfl, ?_⟩) (by assumption) ?_
  rotate_left
  · intro w hSw; (try dsimp only at hSw); go_simp; (all_goals with_reducible rfl)
  simp only [Act.put, List.setIfInBounds_toArray, List.set_cons_zero, List.set_cons_succ]
  refine wpAnyH_take (i := 5) (oi := ⟨some 8, _, _, _, _, _⟩) (v := ?_) rfl (by kernel_rfl) (by kernel_rfl) (by kernel_rfl) (fun _ _ _ h => h) (Or.inl ⟨by rfl, ?_⟩) (by assumption) ?_
  rotate_left
  · intro w hSw; (try dsimp only at hSw); go_simp; (all_goals with_reducible rfl)
  simp only [Act.put, List.setIfInBounds_toArray, List.set_cons_zero, List.set_cons_succ]
  refine wpAnyH_ready (rs := [6]) (by kernel_rfl) (by simp) ?_
  refine AllReadyH.cons (o := ⟨some 9, _, _, _, _, _⟩) rfl (fun K hK => ?_) AllReadyH.nil
  go_simp
  refine (l1In_side _ _).mono ?_; rintro e1 wz ⟨rfl, rfl⟩
  go_wp2_with fail
  refine hK.out _ _ ?_ (fun hHeld => ?_)
  · (try dsimp only); (first | assumption | exact s1)
  clear hK K
  try simp only [Act.put, List.setIfInBounds_toArray, List.set_cons_zero, List.set_cons_succ]
  refine wpAnyH_take (i := 7) (oi := ⟨some 10, _, _, _, _, _⟩) (v := ?_) rfl (by kernel_rfl) (by kernel_rfl) (by kernel_rfl) (fun _ _ _ h => h) (Or.inl ⟨by rfl, ?_⟩) (by assumption) ?_
  rotate_left
  · intro w hSw; (try dsimp only at hSw); go_simp; (all_goals with_reducible rfl)
  simp only [Act.put, List.setIfInBounds_toArray, List.set_cons_zero, List.set_cons_succ]
  refine wpAnyH_take (i := 8) (oi := ⟨some 11, _, _, _, _, _⟩) (v := ?_) rfl (by kernel_rfl) (by kernel_rfl) (by kernel_rfl) (fun _ _ _ h => h) (Or.inl ⟨by rfl, ?_⟩) (by assumption) ?_
  rotate_left
  · intro w hSw; (try dsimp only at hSw); go_simp; (all_goals with_reducible rfl)
  simp only [Act.put, List.setIfInBounds_toArray, List.set_cons_zero, List.set_cons_succ]
  refine wpAnyH_take (i := 9) (oi := ⟨some 12, _, _, _, _, _⟩) (v := ?_) rfl (by kernel_rfl) (by kernel_rfl) (by kernel_rfl) (fun _ _ _ h => h) (Or.inl ⟨by rfl, ?_⟩) (by assumption) ?_
  rotate_left
  · intro w hSw; (try dsimp only at hSw); go_simp; (all_goals with_reducible rfl)
  simp only [Act.put, List.setIfInBounds_toArray, List.set_cons_zero, List.set_cons_succ]
  refine wpAnyH_take (i := 10) (oi := ⟨some 13, _, _, _, _, _⟩) (v := ?_) rfl (by kernel_rfl) (by kernel_rfl) (by kernel_rfl) (fun _ _ _ h => h) (Or.inl ⟨by rfl, ?_⟩) (by assumption) ?_
  rotate_left
  · intro w hSw; (try dsimp only at hSw); go_simp; (all_goals with_reducible rfl)
  simp only [Act.put, List.setIfInBounds_toArray, List.set_cons_zero, List.set_cons_succ]
  refine wpAnyH_take (i := 11) (oi := ⟨some 14, _, _, _, _, _⟩) (v := ?_) rfl (by kernel_rfl) (by kernel_rfl) (by kernel_rfl) (fun _ _ _ h => h) (Or.inl ⟨by rfl, ?_⟩) (by assumption) ?_
  rotate_left
  · intro w hSw; (try dsimp only at hSw); go_simp; (all_goals with_reducible rfl)
  simp only [Act.put, List.setIfInBounds_toArray, List.set_cons_zero, List.set_cons_succ]
  refine wpAnyH_take (i := 12) (oi := ⟨some 15, _, _, _, _, _⟩) (v := ?_) rfl (by kernel_rfl) (by kernel_rfl) (by kernel_rfl) (fun _ _ _ h => h) (Or.inl ⟨by rfl, ?_⟩) (by assumption) ?_
  rotate_left
  · intro w hSw; (try dsimp only at hSw); go_simp; (all_goals with_reducible rfl)
  simp only [Act.put, List.setIfInBounds_toArray, List.set_cons_zero, List.set_cons_succ]
  refine wpAnyH_ready (rs := [13]) (by kernel_rfl) (by simp) ?_
  refine AllReadyH.cons (o := ⟨some 16, _, _, _, _, _⟩) rfl (fun K hK => ?_) AllReadyH.nil
  go_simp
  refine (mSize_any _ _ _ _ _ _ a b c e).mono ?_; rintro e2 wy ⟨rfl, ky⟩; have sz := keep5 ky (by assumption)
  go_wp2_with fail
  refine hK.out _ _ ?_ (fun hHeld => ?_)
  · (try dsimp only); (first | assumption | exact s1)
  clear hK K
  try simp only [Act.put, List.setIfInBounds_toArray, List.set_cons_zero, List.set_cons_succ]
  refine wpAnyH_take (i := 14) (oi := ⟨some 17, _, _, _, _, _⟩) (v := ?_) rfl (by kernel_rfl) (by kernel_rfl) (by kernel_rfl) (fun _ _ _ h => h) (Or.inl ⟨by rfl, ?_⟩) (by assumption) ?_
  rotate_left
  · intro w hSw; (try dsimp only at hSw); go_simp; (all_goals with_reducible rfl)
  simp only [Act.put, List.setIfInBounds_toArray, List.set_cons_zero, List.set_cons_succ]
  refine wpAnyH_take (i := 15) (oi := ⟨some 18, _, _, _, _, _⟩) (v := ?_) rfl (by kernel_rfl) (by kernel_rfl) (by kernel_rfl) (fun _ _ _ h => h) (Or.inl ⟨by rfl, ?_⟩) (by assumption) ?_
  rotate_left
  · intro w hSw; (try dsimp only at hSw); go_simp; (all_goals with_reducible rfl)
  simp only [Act.put, List.setIfInBounds_toArray, List.set_cons_zero, List.set_cons_succ]
  refine wpAnyH_take (i := 16) (oi := ⟨some 19, _, _, _, _, _⟩) (v := ?_) rfl (by kernel_rfl) (by kernel_rfl) (by kernel_rfl) (fun _ _ _ h => h) (Or.inl ⟨by rfl, ?_⟩) (by assumption) ?_
  rotate_left
  · intro w hSw; (try dsimp only at hSw); go_simp; (all_goals with_reducible rfl)
  simp only [Act.put, List.setIfInBounds_toArray, List.set_cons_zero, List.set_cons_succ]
  refine wpAnyH_take (i := 17) (oi := ⟨some 20, _, _, _, _, _⟩) (v := undef) rfl (by kernel_rfl) (by kernel_rfl) (by kernel_rfl) (fun _ _ _ h => h) (Or.inr ⟨by rfl, rfl⟩) (by assumption) ?_
  simp only [Act.put, List.setIfInBounds_toArray, List.set_cons_zero, List.set_cons_succ]
  refine wpAnyH_take (i := 18) (oi := ⟨some 21, _, _, _, _, _⟩) (v := undef) rfl (by kernel_rfl) (by kernel_rfl) (by kernel_rfl) (fun _ _ _ h => h) (Or.inr ⟨by rfl, rfl⟩) (by assumption) ?_
  simp only [Act.put, List.setIfInBounds_toArray, List.set_cons_zero, List.set_cons_succ]
  refine wpAnyH_ready (rs := [19]) (by kernel_rfl) (by simp) ?_
  refine AllReadyH.cons (o := ⟨some 22, _, _, _, _, _⟩) rfl (fun K hK => ?_) AllReadyH.nil
  go_simp
  refine hK.out _ _ ?_ (fun hHeld => ?_)
  · (try dsimp only); (first | assumption | exact s1)
  clear hK K
  try simp only [Act.put, List.setIfInBounds_toArray, List.set_cons_zero, List.set_cons_succ]
  refine wpAnyH_take (i := 20) (oi := ⟨some 23, _, _, _, _, _⟩) (v := ?_) rfl (by kernel_rfl) (by kernel_rfl) (by kernel_rfl) (fun _ _ _ h => h) (Or.inl ⟨by rfl, ?_⟩) (by assumption) ?_
  rotate_left
  · intro w hSw; (try dsimp only at hSw); go_simp; (all_goals with_reducible rfl)
  simp only [Act.put, List.setIfInBounds_toArray, List.set_cons_zero, List.set_cons_succ]
  refine wpAnyH_take (i := 21) (oi := ⟨some 24, _, _, _, _, _⟩) (v := ?_) rfl (by kernel_rfl) (by kernel_rfl) (by kernel_rfl) (fun _ _ _ h => h) (Or.inl ⟨by rfl, ?_⟩) (by assumption) ?_
  rotate_left
  · intro w hSw; (try dsimp only at hSw); go_simp; (all_goals with_reducible rfl)
  simp only [Act.put, List.setIfInBounds_toArray, List.set_cons_zero, List.set_cons_succ]
  refine wpAnyH_take (i := 22) (oi := ⟨some 25, _, _, _, _, _⟩) (v := undef) rfl (by kernel_rfl) (by kernel_rfl) (by kernel_rfl) (fun _ _ _ h => h) (Or.inr ⟨by rfl, rfl⟩) (by assumption) ?_
  simp only [Act.put, List.setIfInBounds_toArray, List.set_cons_zero, List.set_cons_succ]
  refine wpAnyH_take (i := 23) (oi := ⟨some 26, _, _, _, _, _⟩) (v := undef) rfl (by kernel_rfl) (by kernel_rfl) (by kernel_rfl) (fun _ _ _ h => h) (Or.inr ⟨by rfl, rfl⟩) (by assumption) ?_
  simp only [Act.put, List.setIfInBounds_toArray, List.set_cons_zero, List.set_cons_succ]
  refine wpAnyH_take (i := 24) (oi := ⟨some 27, _, _, _, _, _⟩) (v := undef) rfl (by kernel_rfl) (by kernel_rfl) (by kernel_rfl) (fun _ _ _ h => h) (Or.inr ⟨by rfl, rfl⟩) (by assumption) ?_
  simp only [Act.put, List.setIfInBounds_toArray, List.set_cons_zero, List.set_cons_succ]
  refine wpAnyH_ready (rs := [25]) (by kernel_rfl) (by simp) ?_
  refine AllReadyH.cons (o := ⟨some 28, _, _, _, _, _⟩) rfl (fun K hK => ?_) AllReadyH.nil
  go_simp
  refine hK.out _ _ ?_ (fun hHeld => ?_)
  · (try dsimp only); (first | assumption | exact s1)
  clear hK K
  try simp only [Act.put, List.setIfInBounds_toArray, List.set_cons_zero, List.set_cons_succ]
  refine wpAnyH_take (i := 26) (oi := ⟨some 29, _, _, _, _, _⟩) (v := ?_) rfl (by kernel_rfl) (by kernel_rfl) (by kernel_rfl) (fun _ _ _ h => h) (Or.inl ⟨by rfl, ?_⟩) (by assumption) ?_
  rotate_left
  · intro w hSw; (try dsimp only at hSw); go_simp; (all_goals with_reducible rfl)
  simp only [Act.put, List.setIfInBounds_toArray, List.set_cons_zero, List.set_cons_succ]
  refine wpAnyH_take (i := 27) (oi := ⟨some 30, _, _, _, _, _⟩) (v := ?_) rfl (by kernel_rfl) (by kernel_rfl) (by kernel_rfl) (fun _ _ _ h => h) (Or.inl ⟨by rfl, ?_⟩) (by assumption) ?_
  rotate_left
  · intro w hSw; (try dsimp only at hSw); go_simp; (all_goals with_reducible rfl)
  simp only [Act.put, List.setIfInBounds_toArray, List.set_cons_zero, List.set_cons_succ]
  refine wpAnyH_take (i := 28) (oi := ⟨some 31, _, _, _, _, _⟩) (v := undef) rfl (by kernel_rfl) (by kernel_rfl) (by kernel_rfl) (fun _ _ _ h => h) (Or.inr ⟨by rfl, rfl⟩) (by assumption) ?_
  simp only [Act.put, List.setIfInBounds_toArray, List.set_cons_zero, List.set_cons_succ]
  refine wpAnyH_take (i := 29) (oi := ⟨some 32, _, _, _, _, _⟩) (v := undef) rfl (by kernel_rfl) (by kernel_rfl) (by kernel_rfl) (fun _ _ _ h => h) (Or.inr ⟨by rfl, rfl⟩) (by assumption) ?_
  simp only [Act.put, List.setIfInBounds_toArray, List.set_cons_zero, List.set_cons_succ]
  refine wpAnyH_take (i := 30) (oi := ⟨some 33, _, _, _, _, _⟩) (v := undef) rfl (by kernel_rfl) (by kernel_rfl) (by kernel_rfl) (fun _ _ _ h => h) (Or.inr ⟨by rfl, rfl⟩) (by assumption) ?_
  simp only [Act.put, List.setIfInBounds_toArray, List.set_cons_zero, List.set_cons_succ]
  refine wpAnyH_ready (rs := [31]) (by kernel_rfl) (by simp) ?_
  refine AllReadyH.cons (o := ⟨some 34, _, _, _, _, _⟩) rfl (fun K hK => ?_) AllReadyH.nil
  go_simp
  refine hK.out _ _ ?_ (fun hHeld => ?_)
  · (try dsimp only); (first | assumption | exact s1)
  clear hK K
  try simp only [Act.put, List.setIfInBounds_toArray, List.set_cons_zero, List.set_cons_succ]
  refine wpAnyH_take (i := 32) (oi := ⟨some 35, _, _, _, _, _⟩) (v := ?_) rfl (by kernel_rfl) (by kernel_rfl) (by kernel_rfl) (fun _ _ _ h => h) (Or.inl ⟨by rfl, ?_⟩) (by assumption) ?_
  rotate_left
  · intro w hSw; (try dsimp only at hSw); go_simp; (all_goals with_reducible rfl)
  simp only [Act.put, List.setIfInBounds_toArray, List.set_cons_zero, List.set_cons_succ]
  refine wpAnyH_ready (rs := [33]) (by kernel_rfl) (by simp) ?_
  refine AllReadyH.cons (o := ⟨some 2, _, _, _, _, _⟩) rfl (fun K hK => ?_) AllReadyH.nil
  go_simp
  refine hK.out _ _ ?_ (fun hHeld => ?_)
  · (try dsimp only); (first | assumption | exact s1)
  clear hK K
  try simp only [Act.put, List.setIfInBounds_toArray, List.set_cons_zero, List.set_cons_succ]
  refine wpAnyH_done (by kernel_rfl) ?_ _
  go_wp2_with fail
  go_ret
  exact ⟨rfl, sz.2.2.2.2.2⟩

set_option maxHeartbeats 4000000 in
theorem mGood_no4 (W H : Int) (At Ar Ad : Option Addr) (nt ct nr cr nd cd : Nat) (lt lr ld : List Int) (w : World) (hL : Lists w (.slice At nt ct) (.slice Ar nr cr) (.slice Ad nd cd) lt lr ld) (h : sideB W = true) (h' : sideB H = true) (hn : (nt : Int) = W * H) (h4 : lt.all terrB = false) :
    Calls Tryz.prog 31 #[mp W H (.slice At nt ct) (.slice Ar nr cr) (.slice Ad nd cd)] w fun e w' => e = .returned (.bool false) ∧ Kp w w' := by
  have s0 := new5 w (.int .i64 W) (.int .i64 H) (.slice At nt ct) (.slice Ar nr cr) (.slice Ad nd cd) 36
  obtain ⟨a, b⟩ := sideB_true h
  obtain ⟨c, e⟩ := sideB_true h'
  have HL := Lib.hid hL
  clear hL
  have hne : ((nt : Int) == W * H) = true := by simpa using hn
  clear hn
  go_enter Tryz.func31, Tryz.ntmps31
  go_wp2_with fail
  generalize w.alloc (.cells #[.int .i64 W, .int .i64 H, .slice At nt ct, .slice Ar nr cr, .slice Ad nd cd] 36) = W0 at *
  have s1 := drew5 s0
  refine wp_region_held_drew (S := (fun w' => w'.cell? ⟨w.heap.size, 0, none⟩ = some (.int .i64 W) ∧ w'.cell? ⟨w.heap.size, 1, none⟩ = some (.int .i64 H) ∧ w'.cell? ⟨w.heap.size, 2, none⟩ = some (.slice At nt ct) ∧ w'.cell? ⟨w.heap.size, 3, none⟩ = some (.slice Ar nr cr) ∧ w'.cell? ⟨w.heap.size, 4, none⟩ = some (.slice Ad nd cd) ∧ Kp w w')) (by kernel_rfl) ?_ (fun hHeld => ?_)
  · exact s1
  refine wpAnyH_take (i := 0) (oi := ⟨some 3, _, _, _, _, _⟩) (v := ?_) rfl (by kernel_rfl) (by kernel_rfl) (by kernel_rfl) (fun _ _ _ h => h) (Or.inl ⟨by rfl, ?_⟩) (by assumption) ?_
  rotate_left
  · intro w hSw; (try dsimp only at hSw); go_simp; (all_goals with_reducible rfl)
  simp only [Act.put, List.setIfInBounds_toArray, List.set_cons_zero, List.set_cons_succ]
  refine wpAnyH_take (i := 1) (oi := ⟨some 4, _, _, _, _, _⟩) (v := ?_) rfl (by kernel_rfl) (by kernel_rfl) (by kernel_rfl) (fun _ _ _ h => h) (Or.inl ⟨by rfl, ?_⟩) (by assumption) ?_
  rotate_left
  · intro w hSw; (try dsimp only at hSw); go_simp; (all_goals with_reducible rfl)
  simp only [Act.put, List.setIfInBounds_toArray, List.set_cons_zero, List.set_cons_succ]
  refine wpAnyH_ready (rs := [2]) (by kernel_rfl) (by simp) ?_
  refine AllReadyH.cons (o := ⟨some 5, _, _, _, _, _⟩) rfl (fun K hK => ?_) AllReadyH.nil
  go_simp
  refine (l1In_side _ _).mono ?_; rintro e1 wz ⟨rfl, rfl⟩
  go_wp2_with fail
  refine hK.out _ _ ?_ (fun hHeld => ?_)
  · (try dsimp only); (first | assumption | exact s1)
  clear hK K
  try simp only [Act.put, List.setIfInBounds_toArray, List.set_cons_zero, List.set_cons_succ]
  refine wpAnyH_take (i := 3) (oi := ⟨some 6, _, _, _, _, _⟩) (v := ?_) rfl (by kernel_rfl) (by kernel_rfl) (by kernel_rfl) (fun _ _ _ h => h) (Or.inl ⟨by rfl, ?_⟩) (by assumption) ?_
  rotate_left
  · intro w hSw; (try dsimp only at hSw); go_simp; (all_goals with_reducible rfl)
  simp only [Act.put, List.setIfInBounds_toArray, List.set_cons_zero, List.set_cons_succ]
  refine wpAnyH_take (i := 4) (oi := ⟨some 7, _, _, _, _, _⟩) (v := ?_) rfl (by kernel_rfl) (by kernel_rfl) (by kernel_rfl) (fun _ _ _ h => h) (Or.inl ⟨by rfl, ?_⟩) (by assumption) ?_
  rotate_left
  · intro w hSw; (try dsimp only at hSw); go_simp; (all_goals with_reducible rfl)
  simp only [Act.put, List.setIfInBounds_toArray, List.set_cons_zero, List.set_cons_succ]
  refine wpAnyH_take (i := 5) (oi := ⟨some 8, _, _, _, _, _⟩) (v := ?_) rfl (by kernel_rfl) (by kernel_rfl) (by kernel_rfl) (fun _ _ _ h => h) (Or.inl ⟨by rfl, ?_⟩) (by assumption) ?_
  rotate_left
  · intro w hSw; (try dsimp only at hSw); go_simp; (all_goals with_reducible rfl)
  simp only [Act.put, List.setIfInBounds_toArray, List.set_cons_zero, List.set_cons_succ]
  refine wpAnyH_ready (rs := [6]) (by kernel_rfl) (by simp) ?_
  refine AllReadyH.cons (o := ⟨some 9, _, _, _, _, _⟩) rfl (fun K hK => ?_) AllReadyH.nil
  go_simp
  refine (l1In_side _ _).mono ?_; rintro e1 wz ⟨rfl, rfl⟩
  go_wp2_with fail
  refine hK.out _ _ ?_ (fun hHeld => ?_)
  · (try dsimp only); (first | assumption | exact s1)
  clear hK K
  try simp only [Act.put, List.setIfInBounds_toArray, List.set_cons_zero, List.set_cons_succ]
  refine wpAnyH_take (i := 7) (oi := ⟨some 10, _, _, _, _, _⟩) (v := ?_) rfl (by kernel_rfl) (by kernel_rfl) (by kernel_rfl) (fun _ _ _ h => h) (Or.inl ⟨by rfl, ?_⟩) (by assumption) ?_
  rotate_left
  · intro w hSw; (try dsimp only at hSw); go_simp; (all_goals with_reducible rfl)
  simp only [Act.put, List.setIfInBounds_toArray, List.set_cons_zero, List.set_cons_succ]
  refine wpAnyH_take (i := 8) (oi := ⟨some 11, _, _, _, _, _⟩) (v := ?_) rfl (by kernel_rfl) (by kernel_rfl) (by kernel_rfl) (fun _ _ _ h => h) (Or.inl ⟨by rfl, ?_⟩) (by assumption) ?_
  rotate_left
  · intro w hSw; (try dsimp only at hSw); go_simp; (all_goals with_reducible rfl)
  simp only [Act.put, List.setIfInBounds_toArray, List.set_cons_zero, List.set_cons_succ]
  refine wpAnyH_take (i := 9) (oi := ⟨some 12, _, _, _, _, _⟩) (v := ?_) rfl (by kernel_rfl) (by kernel_rfl) (by kernel_rfl) (fun _ _ _ h => h) (Or.inl ⟨by rfl, ?_⟩) (by assumption) ?_
  rotate_left
  · intro w hSw; (try dsimp only at hSw); go_simp; (all_goals with_reducible rfl)
  simp only [Act.put, List.setIfInBounds_toArray, List.set_cons_zero, List.set_cons_succ]
  refine wpAnyH_take (i := 10) (oi := ⟨some 13, _, _, _, _, _⟩) (v := ?_) rfl (by kernel_rfl) (by kernel_rfl) (by kernel_rfl) (fun _ _ _ h => h) (Or.inl ⟨by rfl, ?_⟩) (by assumption) ?_
  rotate_left
  · intro w hSw; (try dsimp only at hSw); go_simp; (all_goals with_reducible rfl)
  simp only [Act.put, List.setIfInBounds_toArray, List.set_cons_zero, List.set_cons_succ]
  refine wpAnyH_take (i := 11) (oi := ⟨some 14, _, _, _, _, _⟩) (v := ?_) rfl (by kernel_rfl) (by kernel_rfl) (by kernel_rfl) (fun _ _ _ h => h) (Or.inl ⟨by rfl, ?_⟩) (by assumption) ?_
  rotate_left
  · intro w hSw; (try dsimp only at hSw); go_simp; (all_goals with_reducible rfl)
  simp only [Act.put, List.setIfInBounds_toArray, List.set_cons_zero, List.set_cons_succ]
  refine wpAnyH_take (i := 12) (oi := ⟨some 15, _, _, _, _, _⟩) (v := ?_) rfl (by kernel_rfl) (by kernel_rfl) (by kernel_rfl) (fun _ _ _ h => h) (Or.inl ⟨by rfl, ?_⟩) (by assumption) ?_
  rotate_left
  · intro w hSw; (try dsimp only at hSw); go_simp; (all_goals with_reducible rfl)
  simp only [Act.put, List.setIfInBounds_toArray, List.set_cons_zero, List.set_cons_succ]
  refine wpAnyH_ready (rs := [13]) (by kernel_rfl) (by simp) ?_
  refine AllReadyH.cons (o := ⟨some 16, _, _, _, _, _⟩) rfl (fun K hK => ?_) AllReadyH.nil
  go_simp
  refine (mSize_any _ _ _ _ _ _ a b c e).mono ?_; rintro e2 wy ⟨rfl, ky⟩; have sz := keep5 ky (by assumption)
  go_wp2_with fail
  refine hK.out _ _ ?_ (fun hHeld => ?_)
  · (try dsimp only); (first | assumption | exact s1)
  clear hK K
  try simp only [Act.put, List.setIfInBounds_toArray, List.set_cons_zero, List.set_cons_succ]
  refine wpAnyH_take (i := 14) (oi := ⟨some 17, _, _, _, _, _⟩) (v := ?_) rfl (by kernel_rfl) (by kernel_rfl) (by kernel_rfl) (fun _ _ _ h => h) (Or.inl ⟨by rfl, ?_⟩) (by assumption) ?_
  rotate_left
  · intro w hSw; (try dsimp only at hSw); go_simp; (all_goals with_reducible rfl)
  simp only [Act.put, List.setIfInBounds_toArray, List.set_cons_zero, List.set_cons_succ]
  refine wpAnyH_take (i := 15) (oi := ⟨some 18, _, _, _, _, _⟩) (v := ?_) rfl (by kernel_rfl) (by kernel_rfl) (by kernel_rfl) (fun _ _ _ h => h) (Or.inl ⟨by rfl, ?_⟩) (by assumption) ?_
  rotate_left
  · intro w hSw; (try dsimp only at hSw); go_simp; (all_goals with_reducible rfl)
  simp only [Act.put, List.setIfInBounds_toArray, List.set_cons_zero, List.set_cons_succ]
  refine wpAnyH_take (i := 16) (oi := ⟨some 19, _, _, _, _, _⟩) (v := ?_) rfl (by kernel_rfl) (by kernel_rfl) (by kernel_rfl) (fun _ _ _ h => h) (Or.inl ⟨by rfl, ?_⟩) (by assumption) ?_
  rotate_left
  · intro w hSw; (try dsimp only at hSw); go_simp; (all_goals with_reducible rfl)
  simp only [Act.put, List.setIfInBounds_toArray, List.set_cons_zero, List.set_cons_succ]
  refine wpAnyH_take (i := 17) (oi := ⟨some 20, _, _, _, _, _⟩) (v := ?_) rfl (by kernel_rfl) (by kernel_rfl) (by kernel_rfl) (fun _ _ _ h => h) (Or.inl ⟨by rfl, ?_⟩) (by assumption) ?_
  rotate_left
  · intro w hSw; (try dsimp only at hSw); go_simp; (all_goals with_reducible rfl)
  simp only [Act.put, List.setIfInBounds_toArray, List.set_cons_zero, List.set_cons_succ]
  refine wpAnyH_take (i := 18) (oi := ⟨some 21, _, _, _, _, _⟩) (v := ?_) rfl (by kernel_rfl) (by kernel_rfl) (by kernel_rfl) (fun _ _ _ h => h) (Or.inl ⟨by rfl, ?_⟩) (by assumption) ?_
  rotate_left
  · intro w hSw; (try dsimp only at hSw); go_simp; (all_goals with_reducible rfl)
  simp only [Act.put, List.setIfInBounds_toArray, List.set_cons_zero, List.set_cons_succ]
  refine wpAnyH_ready (rs := [19]) (by kernel_rfl) (by simp) ?_
  refine AllReadyH.cons (o := ⟨some 22, _, _, _, _, _⟩) rfl (fun K hK => ?_) AllReadyH.nil
  go_simp
  refine (l1All_terr _ lt _ (HL.out.k5 sz).rt HL.out.bt).mono ?_; rintro e3 wx ⟨rfl, rfl⟩
  go_wp2_with fail
  refine hK.out _ _ ?_ (fun hHeld => ?_)
  · (try dsimp only); (first | assumption | exact s1)
  clear hK K
  try simp only [Act.put, List.setIfInBounds_toArray, List.set_cons_zero, List.set_cons_succ]
  refine wpAnyH_take (i := 20) (oi := ⟨some 23, _, _, _, _, _⟩) (v := ?_) rfl (by kernel_rfl) (by kernel_rfl) (by kernel_rfl) (fun _ _ _ h => h) (Or.inl ⟨by rfl, ?_⟩) (by assumption) ?_
  rotate_left
  · intro w hSw; (try dsimp only at hSw); go_simp; (all_goals with_reducible rfl)
  simp only [Act.put, List.setIfInBounds_toArray, List.set_cons_zero, List.set_cons_succ]
  refine wpAnyH_take (i := 21) (oi := ⟨some 24, _, _, _, _, _⟩) (v := ?_) rfl (by kernel_rfl) (by kernel_rfl) (by kernel_rfl) (fun _ _ _ h => h) (Or.inl ⟨by rfl, ?_⟩) (by assumption) ?_
  rotate_left
  · intro w hSw; (try dsimp only at hSw); go_simp; (all_goals with_reducible rfl)
  simp only [Act.put, List.setIfInBounds_toArray, List.set_cons_zero, List.set_cons_succ]
  refine wpAnyH_take (i := 22) (oi := ⟨some 25, _, _, _, _, _⟩) (v := undef) rfl (by kernel_rfl) (by kernel_rfl) (by kernel_rfl) (fun _ _ _ h => h) (Or.inr ⟨by rfl, rfl⟩) (by assumption) ?_
  simp only [Act.put, List.setIfInBounds_toArray, List.set_cons_zero, List.set_cons_succ]
  refine wpAnyH_take (i := 23) (oi := ⟨some 26, _, _, _, _, _⟩) (v := undef) rfl (by kernel_rfl) (by kernel_rfl) (by kernel_rfl) (fun _ _ _ h => h) (Or.inr ⟨by rfl, rfl⟩) (by assumption) ?_
  simp only [Act.put, List.setIfInBounds_toArray, List.set_cons_zero, List.set_cons_succ]
  refine wpAnyH_take (i := 24) (oi := ⟨some 27, _, _, _, _, _⟩) (v := undef) rfl (by kernel_rfl) (by kernel_rfl) (by kernel_rfl) (fun _ _ _ h => h) (Or.inr ⟨by rfl, rfl⟩) (by assumption) ?_
  simp only [Act.put, List.setIfInBounds_toArray, List.set_cons_zero, List.set_cons_succ]
  refine wpAnyH_ready (rs := [25]) (by kernel_rfl) (by simp) ?_
  refine AllReadyH.cons (o := ⟨some 28, _, _, _, _, _⟩) rfl (fun K hK => ?_) AllReadyH.nil
  go_simp
  refine hK.out _ _ ?_ (fun hHeld => ?_)
  · (try dsimp only); (first | assumption | exact s1)
  clear hK K
  try simp only [Act.put, List.setIfInBounds_toArray, List.set_cons_zero, List.set_cons_succ]
  refine wpAnyH_take (i := 26) (oi := ⟨some 29, _, _, _, _, _⟩) (v := ?_) rfl (by kernel_rfl) (by kernel_rfl) (by kernel_rfl) (fun _ _ _ h => h) (Or.inl ⟨by rfl, ?_⟩) (by assumption) ?_
  rotate_left
  · intro w hSw; (try dsimp only at hSw); go_simp; (all_goals with_reducible rfl)
  simp only [Act.put, List.setIfInBounds_toArray, List.set_cons_zero, List.set_cons_succ]
  refine wpAnyH_take (i := 27) (oi := ⟨some 30, _, _, _, _, _⟩) (v := ?_) rfl (by kernel_rfl) (by kernel_rfl) (by kernel_rfl) (fun _ _ _ h => h) (Or.inl ⟨by rfl, ?_⟩) (by assumption) ?_
  rotate_left
  · intro w hSw; (try dsimp only at hSw); go_simp; (all_goals with_reducible rfl)
  simp only [Act.put, List.setIfInBounds_toArray, List.set_cons_zero, List.set_cons_succ]
  refine wpAnyH_take (i := 28) (oi := ⟨some 31, _, _, _, _, _⟩) (v := undef) rfl (by kernel_rfl) (by kernel_rfl) (by kernel_rfl) (fun _ _ _ h => h) (Or.inr ⟨by rfl, rfl⟩) (by assumption) ?_
  simp only [Act.put, List.setIfInBounds_toArray, List.set_cons_zero, List.set_cons_succ]
  refine wpAnyH_take (i := 29) (oi := ⟨some 32, _, _, _, _, _⟩) (v := undef) rfl (by kernel_rfl) (by kernel_rfl) (by kernel_rfl) (fun _ _ _ h => h) (Or.inr ⟨by rfl, rfl⟩) (by assumption) ?_
  simp only [Act.put, List.setIfInBounds_toArray, List.set_cons_zero, List.set_cons_succ]
  refine wpAnyH_take (i := 30) (oi := ⟨some 33, _, _, _, _, _⟩) (v := undef) rfl (by kernel_rfl) (by kernel_rfl) (by kernel_rfl) (fun _ _ _ h => h) (Or.inr ⟨by rfl, rfl⟩) (by assumption) ?_
  simp only [Act.put, List.setIfInBounds_toArray, List.set_cons_zero, List.set_cons_succ]
  refine wpAnyH_ready (rs := [31]) (by kernel_rfl) (by simp) ?_
  refine AllReadyH.cons (o := ⟨some 34, _, _, _, _, _⟩) rfl (fun K hK => ?_) AllReadyH.nil
  go_simp
  refine hK.out _ _ ?_ (fun hHeld => ?_)
  · (try dsimp only); (first | assumption | exact s1)
  clear hK K
  try simp only [Act.put, List.setIfInBounds_toArray, List.set_cons_zero, List.set_cons_succ]
  refine wpAnyH_take (i := 32) (oi := ⟨some 35, _, _, _, _, _⟩) (v := ?_) rfl (by kernel_rfl) (by kernel_rfl) (by kernel_rfl) (fun _ _ _ h => h) (Or.inl ⟨by rfl, ?_⟩) (by assumption) ?_
  rotate_left
  · intro w hSw; (try dsimp only at hSw); go_simp; (all_goals with_reducible rfl)
  simp only [Act.put, List.setIfInBounds_toArray, List.set_cons_zero, List.set_cons_succ]
  refine wpAnyH_ready (rs := [33]) (by kernel_rfl) (by simp) ?_
  refine AllReadyH.cons (o := ⟨some 2, _, _, _, _, _⟩) rfl (fun K hK => ?_) AllReadyH.nil
  go_simp
  refine hK.out _ _ ?_ (fun hHeld => ?_)
  · (try dsimp only); (first | assumption | exact s1)
  clear hK K
  try simp only [Act.put, List.setIfInBounds_toArray, List.set_cons_zero, List.set_cons_succ]
  refine wpAnyH_done (by kernel_rfl) ?_ _
  go_wp2_with fail
  go_ret
  exact ⟨rfl, sz.2.2.2.2.2⟩

set_option maxHeartbeats 4000000 in
theorem mGood_no5 (W H : Int) (At Ar Ad : Option Addr) (nt ct nr cr nd cd : Nat) (lt lr ld : List Int) (w : World) (hL : Lists w (.slice At nt ct) (.slice Ar nr cr) (.slice Ad nd cd) lt lr ld) (h : sideB W = true) (h' : sideB H = true) (hn : (nt : Int) = W * H) (h4 : lt.all terrB = true) (h5 : edgesOk W H lr = false) :
    Calls Tryz.prog 31 #[mp W H (.slice At nt ct) (.slice Ar nr cr) (.slice Ad nd cd)] w fun e w' => e = .returned (.bool false) ∧ Kp w w' := by
  have s0 := new5 w (.int .i64 W) (.int .i64 H) (.slice At nt ct) (.slice Ar nr cr) (.slice Ad nd cd) 36
  obtain ⟨a, b⟩ := sideB_true h
  obtain ⟨c, e⟩ := sideB_true h'
  have HL := Lib.hid hL
  clear hL
  have hne : ((nt : Int) == W * H) = true := by simpa using hn
  clear hn
  go_enter Tryz.func31, Tryz.ntmps31
  go_wp2_with fail
  generalize w.alloc (.cells #[.int .i64 W, .int .i64 H, .slice At nt ct, .slice Ar nr cr, .slice Ad nd cd] 36) = W0 at *
  have s1 := drew5 s0
  refine wp_region_held_drew (S := (fun w' => w'.cell? ⟨w.heap.size, 0, none⟩ = some (.int .i64 W) ∧ w'.cell? ⟨w.heap.size, 1, none⟩ = some (.int .i64 H) ∧ w'.cell? ⟨w.heap.size, 2, none⟩ = some (.slice At nt ct) ∧ w'.cell? ⟨w.heap.size, 3, none⟩ = some (.slice Ar nr cr) ∧ w'.cell? ⟨w.heap.size, 4, none⟩ = some (.slice Ad nd cd) ∧ Kp w w')) (by kernel_rfl) ?_ (fun hHeld => ?_)
  · exact s1
  refine wpAnyH_take (i := 0) (oi := ⟨some 3, _, _, _, _, _⟩) (v := ?_) rfl (by kernel_rfl) (by kernel_rfl) (by kernel_rfl) (fun _ _ _ h => h) (Or.inl ⟨by rfl, ?_⟩) (by assumption) ?_
  rotate_left
  · intro w hSw; (try dsimp only at hSw); go_simp; (all_goals with_reducible rfl)
  simp only [Act.put, List.setIfInBounds_toArray, List.set_cons_zero, List.set_cons_succ]
  refine wpAnyH_take (i := 1) (oi := ⟨some 4, _, _, _, _, _⟩) (v := ?_) rfl (by kernel_rfl) (by kernel_rfl) (by kernel_rfl) (fun _ _ _ h => h) (Or.inl ⟨by rfl, ?_⟩) (by assumption) ?_
  rotate_left
  · intro w hSw; (try dsimp only at hSw); go_simp; (all_goals with_reducible rfl)
  simp only [Act.put, List.setIfInBounds_toArray, List.set_cons_zero, List.set_cons_succ]
  refine wpAnyH_ready (rs := [2]) (by kernel_rfl) (by simp) ?_
  refine AllReadyH.cons (o := ⟨some 5, _, _, _, _, _⟩) rfl (fun K hK => ?_) AllReadyH.nil
  go_simp
  refine (l1In_side _ _).mono ?_; rintro e1 wz ⟨rfl, rfl⟩
  go_wp2_with fail
  refine hK.out _ _ ?_ (fun hHeld => ?_)
  · (try dsimp only); (first | assumption | exact s1)
  clear hK K
  try simp only [Act.put, List.setIfInBounds_toArray, List.set_cons_zero, List.set_cons_succ]
  refine wpAnyH_take (i := 3) (oi := ⟨some 6, _, _, _, _, _⟩) (v := ?_) rfl (by kernel_rfl) (by kernel_rfl) (by kernel_rfl) (fun _ _ _ h => h) (Or.inl ⟨by rfl, ?_⟩) (by assumption) ?_
  rotate_left
  · intro w hSw; (try dsimp only at hSw); go_simp; (all_goals with_reducible rfl)
  simp only [Act.put, List.setIfInBounds_toArray, List.set_cons_zero, List.set_cons_succ]
  refine wpAnyH_take (i := 4) (oi := ⟨some 7, _, _, _, _, _⟩) (v := ?_) rfl (by kernel_rfl) (by kernel_rfl) (by kernel_rfl) (fun _ _ _ h => h) (Or.inl ⟨by rfl, ?_⟩) (by assumption) ?_
  rotate_left
  · intro w hSw; (try dsimp only at hSw); go_simp; (all_goals with_reducible rfl)
  simp only [Act.put, List.setIfInBounds_toArray, List.set_cons_zero, List.set_cons_succ]
  refine wpAnyH_take (i := 5) (oi := ⟨some 8, _, _, _, _, _⟩) (v := ?_) rfl (by kernel_rfl) (by kernel_rfl) (by kernel_rfl) (fun _ _ _ h => h) (Or.inl ⟨by rfl, ?_⟩) (by assumption) ?_
  rotate_left
  · intro w hSw; (try dsimp only at hSw); go_simp; (all_goals with_reducible rfl)
  simp only [Act.put, List.setIfInBounds_toArray, List.set_cons_zero, List.set_cons_succ]
  refine wpAnyH_ready (rs := [6]) (by kernel_rfl) (by simp) ?_
  refine AllReadyH.cons (o := ⟨some 9, _, _, _, _, _⟩) rfl (fun K hK => ?_) AllReadyH.nil
  go_simp
  refine (l1In_side _ _).mono ?_; rintro e1 wz ⟨rfl, rfl⟩
  go_wp2_with fail
  refine hK.out _ _ ?_ (fun hHeld => ?_)
  · (try dsimp only); (first | assumption | exact s1)
  clear hK K
  try simp only [Act.put, List.setIfInBounds_toArray, List.set_cons_zero, List.set_cons_succ]
  refine wpAnyH_take (i := 7) (oi := ⟨some 10, _, _, _, _, _⟩) (v := ?_) rfl (by kernel_rfl) (by kernel_rfl) (by kernel_rfl) (fun _ _ _ h => h) (Or.inl ⟨by rfl, ?_⟩) (by assumption) ?_
  rotate_left
  · intro w hSw; (try dsimp only at hSw); go_simp; (all_goals with_reducible rfl)
  simp only [Act.put, List.setIfInBounds_toArray, List.set_cons_zero, List.set_cons_succ]
  refine wpAnyH_take (i := 8) (oi := ⟨some 11, _, _, _, _, _⟩) (v := ?_) rfl (by kernel_rfl) (by kernel_rfl) (by kernel_rfl) (fun _ _ _ h => h) (Or.inl ⟨by rfl, ?_⟩) (by assumption) ?_
  rotate_left
  · intro w hSw; (try dsimp only at hSw); go_simp; (all_goals with_reducible rfl)
  simp only [Act.put, List.setIfInBounds_toArray, List.set_cons_zero, List.set_cons_succ]
  refine wpAnyH_take (i := 9) (oi := ⟨some 12, _, _, _, _, _⟩) (v := ?_) rfl (by kernel_rfl) (by kernel_rfl) (by kernel_rfl) (fun _ _ _ h => h) (Or.inl ⟨by rfl, ?_⟩) (by assumption) ?_
  rotate_left
  · intro w hSw; (try dsimp only at hSw); go_simp; (all_goals with_reducible rfl)
  simp only [Act.put, List.setIfInBounds_toArray, List.set_cons_zero, List.set_cons_succ]
  refine wpAnyH_take (i := 10) (oi := ⟨some 13, _, _, _, _, _⟩) (v := ?_) rfl (by kernel_rfl) (by kernel_rfl) (by kernel_rfl) (fun _ _ _ h => h) (Or.inl ⟨by rfl, ?_⟩) (by assumption) ?_
  rotate_left
  · intro w hSw; (try dsimp only at hSw); go_simp; (all_goals with_reducible rfl)
  simp only [Act.put, List.setIfInBounds_toArray, List.set_cons_zero, List.set_cons_succ]
  refine wpAnyH_take (i := 11) (oi := ⟨some 14, _, _, _, _, _⟩) (v := ?_) rfl (by kernel_rfl) (by kernel_rfl) (by kernel_rfl) (fun _ _ _ h => h) (Or.inl ⟨by rfl, ?_⟩) (by assumption) ?_
  rotate_left
  · intro w hSw; (try dsimp only at hSw); go_simp; (all_goals with_reducible rfl)
  simp only [Act.put, List.setIfInBounds_toArray, List.set_cons_zero, List.set_cons_succ]
  refine wpAnyH_take (i := 12) (oi := ⟨some 15, _, _, _, _, _⟩) (v := ?_) rfl (by kernel_rfl) (by kernel_rfl) (by kernel_rfl) (fun _ _ _ h => h) (Or.inl ⟨by rfl, ?_⟩) (by assumption) ?_
  rotate_left
  · intro w hSw; (try dsimp only at hSw); go_simp; (all_goals with_reducible rfl)
  simp only [Act.put, List.setIfInBounds_toArray, List.set_cons_zero, List.set_cons_succ]
  refine wpAnyH_ready (rs := [13]) (by kernel_rfl) (by simp) ?_
  refine AllReadyH.cons (o := ⟨some 16, _, _, _, _, _⟩) rfl (fun K hK => ?_) AllReadyH.nil
  go_simp
  refine (mSize_any _ _ _ _ _ _ a b c e).mono ?_; rintro e2 wy ⟨rfl, ky⟩; have sz := keep5 ky (by assumption)
  go_wp2_with fail
  refine hK.out _ _ ?_ (fun hHeld => ?_)
  · (try dsimp only); (first | assumption | exact s1)
  clear hK K
  try simp only [Act.put, List.setIfInBounds_toArray, List.set_cons_zero, List.set_cons_succ]
  refine wpAnyH_take (i := 14) (oi := ⟨some 17, _, _, _, _, _⟩) (v := ?_) rfl (by kernel_rfl) (by kernel_rfl) (by kernel_rfl) (fun _ _ _ h => h) (Or.inl ⟨by rfl, ?_⟩) (by assumption) ?_
  rotate_left
  · intro w hSw; (try dsimp only at hSw); go_simp; (all_goals with_reducible rfl)
  simp only [Act.put, List.setIfInBounds_toArray, List.set_cons_zero, List.set_cons_succ]
  refine wpAnyH_take (i := 15) (oi := ⟨some 18, _, _, _, _, _⟩) (v := ?_) rfl (by kernel_rfl) (by kernel_rfl) (by kernel_rfl) (fun _ _ _ h => h) (Or.inl ⟨by rfl, ?_⟩) (by assumption) ?_
  rotate_left
  · intro w hSw; (try dsimp only at hSw); go_simp; (all_goals with_reducible rfl)
  simp only [Act.put, List.setIfInBounds_toArray, List.set_cons_zero, List.set_cons_succ]
  refine wpAnyH_take (i := 16) (oi := ⟨some 19, _, _, _, _, _⟩) (v := ?_) rfl (by kernel_rfl) (by kernel_rfl) (by kernel_rfl) (fun _ _ _ h => h) (Or.inl ⟨by rfl, ?_⟩) (by assumption) ?_
  rotate_left
  · intro w hSw; (try dsimp only at hSw); go_simp; (all_goals with_reducible rfl)
  simp only [Act.put, List.setIfInBounds_toArray, List.set_cons_zero, List.set_cons_succ]
  refine wpAnyH_take (i := 17) (oi := ⟨some 20, _, _, _, _, _⟩) (v := ?_) rfl (by kernel_rfl) (by kernel_rfl) (by kernel_rfl) (fun _ _ _ h => h) (Or.inl ⟨by rfl, ?_⟩) (by assumption) ?_
  rotate_left
  · intro w hSw; (try dsimp only at hSw); go_simp; (all_goals with_reducible rfl)
  simp only [Act.put, List.setIfInBounds_toArray, List.set_cons_zero, List.set_cons_succ]
  refine wpAnyH_take (i := 18) (oi := ⟨some 21, _, _, _, _, _⟩) (v := ?_) rfl (by kernel_rfl) (by kernel_rfl) (by kernel_rfl) (fun _ _ _ h => h) (Or.inl ⟨by rfl, ?_⟩) (by assumption) ?_
  rotate_left
  · intro w hSw; (try dsimp only at hSw); go_simp; (all_goals with_reducible rfl)
  simp only [Act.put, List.setIfInBounds_toArray, List.set_cons_zero, List.set_cons_succ]
  refine wpAnyH_ready (rs := [19]) (by kernel_rfl) (by simp) ?_
  refine AllReadyH.cons (o := ⟨some 22, _, _, _, _, _⟩) rfl (fun K hK => ?_) AllReadyH.nil
  go_simp
  refine (l1All_terr _ lt _ (HL.out.k5 sz).rt HL.out.bt).mono ?_; rintro e3 wx ⟨rfl, rfl⟩
  go_wp2_with fail
  refine hK.out _ _ ?_ (fun hHeld => ?_)
  · (try dsimp only); (first | assumption | exact s1)
  clear hK K
  try simp only [Act.put, List.setIfInBounds_toArray, List.set_cons_zero, List.set_cons_succ]
  refine wpAnyH_take (i := 20) (oi := ⟨some 23, _, _, _, _, _⟩) (v := ?_) rfl (by kernel_rfl) (by kernel_rfl) (by kernel_rfl) (fun _ _ _ h => h) (Or.inl ⟨by rfl, ?_⟩) (by assumption) ?_
  rotate_left
  · intro w hSw; (try dsimp only at hSw); go_simp; (all_goals with_reducible rfl)
  simp only [Act.put, List.setIfInBounds_toArray, List.set_cons_zero, List.set_cons_succ]
  refine wpAnyH_take (i := 21) (oi := ⟨some 24, _, _, _, _, _⟩) (v := ?_) rfl (by kernel_rfl) (by kernel_rfl) (by kernel_rfl) (fun _ _ _ h => h) (Or.inl ⟨by rfl, ?_⟩) (by assumption) ?_
  rotate_left
  · intro w hSw; (try dsimp only at hSw); go_simp; (all_goals with_reducible rfl)
  simp only [Act.put, List.setIfInBounds_toArray, List.set_cons_zero, List.set_cons_succ]
  refine wpAnyH_take (i := 22) (oi := ⟨some 25, _, _, _, _, _⟩) (v := ?_) rfl (by kernel_rfl) (by kernel_rfl) (by kernel_rfl) (fun _ _ _ h => h) (Or.inl ⟨by rfl, ?_⟩) (by assumption) ?_
  rotate_left
  · intro w hSw; (try dsimp only at hSw); go_simp; (all_goals with_reducible rfl)
  simp only [Act.put, List.setIfInBounds_toArray, List.set_cons_zero, List.set_cons_succ]
  refine wpAnyH_take (i := 23) (oi := ⟨some 26, _, _, _, _, _⟩) (v := ?_) rfl (by kernel_rfl) (by kernel_rfl) (by kernel_rfl) (fun _ _ _ h => h) (Or.inl ⟨by rfl, ?_⟩) (by assumption) ?_
  rotate_left
  · intro w hSw; (try dsimp only at hSw); go_simp; (all_goals with_reducible rfl)
  simp only [Act.put, List.setIfInBounds_toArray, List.set_cons_zero, List.set_cons_succ]
  refine wpAnyH_take (i := 24) (oi := ⟨some 27, _, _, _, _, _⟩) (v := ?_) rfl (by kernel_rfl) (by kernel_rfl) (by kernel_rfl) (fun _ _ _ h => h) (Or.inl ⟨by rfl, ?_⟩) (by assumption) ?_
  rotate_left
  · intro w hSw; (try dsimp only at hSw); go_simp; (all_goals with_reducible rfl)
  simp only [Act.put, List.setIfInBounds_toArray, List.set_cons_zero, List.set_cons_succ]
  refine wpAnyH_ready (rs := [25]) (by kernel_rfl) (by simp) ?_
  refine AllReadyH.cons (o := ⟨some 28, _, _, _, _, _⟩) rfl (fun K hK => ?_) AllReadyH.nil
  go_simp
  refine (mEdges_any _ _ _ _ _ (.slice Ar nr cr) lr _ a b c e (HL.out.k5 sz).rr HL.out.br).mono ?_; rintro e4 wv ⟨rfl, kv⟩; have sv := keep5 kv sz
  go_wp2_with fail
  refine hK.out _ _ ?_ (fun hHeld => ?_)
  · (try dsimp only); (first | assumption | exact s1)
  clear hK K
  try simp only [Act.put, List.setIfInBounds_toArray, List.set_cons_zero, List.set_cons_succ]
  refine wpAnyH_take (i := 26) (oi := ⟨some 29, _, _, _, _, _⟩) (v := ?_) rfl (by kernel_rfl) (by kernel_rfl) (by kernel_rfl) (fun _ _ _ h => h) (Or.inl ⟨by rfl, ?_⟩) (by assumption) ?_
  rotate_left
  · intro w hSw; (try dsimp only at hSw); go_simp; (all_goals with_reducible rfl)
  simp only [Act.put, List.setIfInBounds_toArray, List.set_cons_zero, List.set_cons_succ]
  refine wpAnyH_take (i := 27) (oi := ⟨some 30, _, _, _, _, _⟩) (v := ?_) rfl (by kernel_rfl) (by kernel_rfl) (by kernel_rfl) (fun _ _ _ h => h) (Or.inl ⟨by rfl, ?_⟩) (by assumption) ?_
  rotate_left
  · intro w hSw; (try dsimp only at hSw); go_simp; (all_goals with_reducible rfl)
  simp only [Act.put, List.setIfInBounds_toArray, List.set_cons_zero, List.set_cons_succ]
  refine wpAnyH_take (i := 28) (oi := ⟨some 31, _, _, _, _, _⟩) (v := undef) rfl (by kernel_rfl) (by kernel_rfl) (by kernel_rfl) (fun _ _ _ h => h) (Or.inr ⟨by rfl, rfl⟩) (by assumption) ?_
  simp only [Act.put, List.setIfInBounds_toArray, List.set_cons_zero, List.set_cons_succ]
  refine wpAnyH_take (i := 29) (oi := ⟨some 32, _, _, _, _, _⟩) (v := undef) rfl (by kernel_rfl) (by kernel_rfl) (by kernel_rfl) (fun _ _ _ h => h) (Or.inr ⟨by rfl, rfl⟩) (by assumption) ?_
  simp only [Act.put, List.setIfInBounds_toArray, List.set_cons_zero, List.set_cons_succ]
  refine wpAnyH_take (i := 30) (oi := ⟨some 33, _, _, _, _, _⟩) (v := undef) rfl (by kernel_rfl) (by kernel_rfl) (by kernel_rfl) (fun _ _ _ h => h) (Or.inr ⟨by rfl, rfl⟩) (by assumption) ?_
  simp only [Act.put, List.setIfInBounds_toArray, List.set_cons_zero, List.set_cons_succ]
  refine wpAnyH_ready (rs := [31]) (by kernel_rfl) (by simp) ?_
  refine AllReadyH.cons (o := ⟨some 34, _, _, _, _, _⟩) rfl (fun K hK => ?_) AllReadyH.nil
  go_simp
  refine hK.out _ _ ?_ (fun hHeld => ?_)
  · (try dsimp only); (first | assumption | exact s1)
  clear hK K
  try simp only [Act.put, List.setIfInBounds_toArray, List.set_cons_zero, List.set_cons_succ]
  refine wpAnyH_take (i := 32) (oi := ⟨some 35, _, _, _, _, _⟩) (v := ?_) rfl (by kernel_rfl) (by kernel_rfl) (by kernel_rfl) (fun _ _ _ h => h) (Or.inl ⟨by rfl, ?_⟩) (by assumption) ?_
  rotate_left
  · intro w hSw; (try dsimp only at hSw); go_simp; (all_goals with_reducible rfl)
  simp only [Act.put, List.setIfInBounds_toArray, List.set_cons_zero, List.set_cons_succ]
  refine wpAnyH_ready (rs := [33]) (by kernel_rfl) (by simp) ?_
  refine AllReadyH.cons (o := ⟨some 2, _, _, _, _, _⟩) rfl (fun K hK => ?_) AllReadyH.nil
  go_simp
  refine hK.out _ _ ?_ (fun hHeld => ?_)
  · (try dsimp only); (first | assumption | exact s1)
  clear hK K
  try simp only [Act.put, List.setIfInBounds_toArray, List.set_cons_zero, List.set_cons_succ]
  refine wpAnyH_done (by kernel_rfl) ?_ _
  go_wp2_with fail
  go_ret
  exact ⟨rfl, sv.2.2.2.2.2⟩

set_option maxHeartbeats 4000000 in
theorem mGood_yes (W H : Int) (At Ar Ad : Option Addr) (nt ct nr cr nd cd : Nat) (lt lr ld : List Int) (w : World) (hL : Lists w (.slice At nt ct) (.slice Ar nr cr) (.slice Ad nd cd) lt lr ld) (h : sideB W = true) (h' : sideB H = true) (hn : (nt : Int) = W * H) (h4 : lt.all terrB = true) (h5 : edgesOk W H lr = true) :
    Calls Tryz.prog 31 #[mp W H (.slice At nt ct) (.slice Ar nr cr) (.slice Ad nd cd)] w fun e w' => e = .returned (.bool (edgesOk W H ld)) ∧ Kp w w' := by
  have s0 := new5 w (.int .i64 W) (.int .i64 H) (.slice At nt ct) (.slice Ar nr cr) (.slice Ad nd cd) 36
  obtain ⟨a, b⟩ := sideB_true h
  obtain ⟨c, e⟩ := sideB_true h'
  have HL := Lib.hid hL
  clear hL
  have hne : ((nt : Int) == W * H) = true := by simpa using hn
  clear hn
  go_enter Tryz.func31, Tryz.ntmps31
  go_wp2_with fail
  generalize w.alloc (.cells #[.int .i64 W, .int .i64 H, .slice At nt ct, .slice Ar nr cr, .slice Ad nd cd] 36) = W0 at *
  have s1 := drew5 s0
  refine wp_region_held_drew (S := (fun w' => w'.cell? ⟨w.heap.size, 0, none⟩ = some (.int .i64 W) ∧ w'.cell? ⟨w.heap.size, 1, none⟩ = some (.int .i64 H) ∧ w'.cell? ⟨w.heap.size, 2, none⟩ = some (.slice At nt ct) ∧ w'.cell? ⟨w.heap.size, 3, none⟩ = some (.slice Ar nr cr) ∧ w'.cell? ⟨w.heap.size, 4, none⟩ = some (.slice Ad nd cd) ∧ Kp w w')) (by kernel_rfl) ?_ (fun hHeld => ?_)
  · exact s1
  refine wpAnyH_take (i := 0) (oi := ⟨some 3, _, _, _, _, _⟩) (v := ?_) rfl (by kernel_rfl) (by kernel_rfl) (by kernel_rfl) (fun _ _ _ h => h) (Or.inl ⟨by rfl, ?_⟩) (by assumption) ?_
  rotate_left
  · intro w hSw; (try dsimp only at hSw); go_simp; (all_goals with_reducible rfl)
  simp only [Act.put, List.setIfInBounds_toArray, List.set_cons_zero, List.set_cons_succ]
  refine wpAnyH_take (i := 1) (oi := ⟨some 4, _, _, _, _, _⟩) (v := ?_) rfl (by kernel_rfl) (by kernel_rfl) (by kernel_rfl) (fun _ _ _ h => h) (Or.inl ⟨by rfl, ?_⟩) (by assumption) ?_
  rotate_left
  · intro w hSw; (try dsimp only at hSw); go_simp; (all_goals with_reducible rfl)
  simp only [Act.put, List.setIfInBounds_toArray, List.set_cons_zero, List.set_cons_succ]
  refine wpAnyH_ready (rs := [2]) (by kernel_rfl) (by simp) ?_
  refine AllReadyH.cons (o := ⟨some 5, _, _, _, _, _⟩) rfl (fun K hK => ?_) AllReadyH.nil
  go_simp
  refine (l1In_side _ _).mono ?_; rintro e1 wz ⟨rfl, rfl⟩
  go_wp2_with fail
  refine hK.out _ _ ?_ (fun hHeld => ?_)
  · (try dsimp only); (first | assumption | exact s1)
  clear hK K
  try simp only [Act.put, List.setIfInBounds_toArray, List.set_cons_zero, List.set_cons_succ]
  refine wpAnyH_take (i := 3) (oi := ⟨some 6, _, _, _, _, _⟩) (v := ?_) rfl (by kernel_rfl) (by kernel_rfl) (by kernel_rfl) (fun _ _ _ h => h) (Or.inl ⟨by rfl, ?_⟩) (by assumption) ?_
  rotate_left
  · intro w hSw; (try dsimp only at hSw); go_simp; (all_goals with_reducible rfl)
  simp only [Act.put, List.setIfInBounds_toArray, List.set_cons_zero, List.set_cons_succ]
  refine wpAnyH_take (i := 4) (oi := ⟨some 7, _, _, _, _, _⟩) (v := ?_) rfl (by kernel_rfl) (by kernel_rfl) (by kernel_rfl) (fun _ _ _ h => h) (Or.inl ⟨by rfl, ?_⟩) (by assumption) ?_
  rotate_left
  · intro w hSw; (try dsimp only at hSw); go_simp; (all_goals with_reducible rfl)
  simp only [Act.put, List.setIfInBounds_toArray, List.set_cons_zero, List.set_cons_succ]
  refine wpAnyH_take (i := 5) (oi := ⟨some 8, _, _, _, _, _⟩) (v := ?_) rfl (by kernel_rfl) (by kernel_rfl) (by kernel_rfl) (fun _ _ _ h => h) (Or.inl ⟨by rfl, ?_⟩) (by assumption) ?_
  rotate_left
  · intro w hSw; (try dsimp only at hSw); go_simp; (all_goals with_reducible rfl)
  simp only [Act.put, List.setIfInBounds_toArray, List.set_cons_zero, List.set_cons_succ]
  refine wpAnyH_ready (rs := [6]) (by kernel_rfl) (by simp) ?_
  refine AllReadyH.cons (o := ⟨some 9, _, _, _, _, _⟩) rfl (fun K hK => ?_) AllReadyH.nil
  go_simp
  refine (l1In_side _ _).mono ?_; rintro e1 wz ⟨rfl, rfl⟩
  go_wp2_with fail
  refine hK.out _ _ ?_ (fun hHeld => ?_)
  · (try dsimp only); (first | assumption | exact s1)
  clear hK K
  try simp only [Act.put, List.setIfInBounds_toArray, List.set_cons_zero, List.set_cons_succ]
  refine wpAnyH_take (i := 7) (oi := ⟨some 10, _, _, _, _, _⟩) (v := ?_) rfl (by kernel_rfl) (by kernel_rfl) (by kernel_rfl) (fun _ _ _ h => h) (Or.inl ⟨by rfl, ?_⟩) (by assumption) ?_
  rotate_left
  · intro w hSw; (try dsimp only at hSw); go_simp; (all_goals with_reducible rfl)
  simp only [Act.put, List.setIfInBounds_toArray, List.set_cons_zero, List.set_cons_succ]
  refine wpAnyH_take (i := 8) (oi := ⟨some 11, _, _, _, _, _⟩) (v := ?_) rfl (by kernel_rfl) (by kernel_rfl) (by kernel_rfl) (fun _ _ _ h => h) (Or.inl ⟨by rfl, ?_⟩) (by assumption) ?_
  rotate_left
  · intro w hSw; (try dsimp only at hSw); go_simp; (all_goals with_reducible rfl)
  simp only [Act.put, List.setIfInBounds_toArray, List.set_cons_zero, List.set_cons_succ]
  refine wpAnyH_take (i := 9) (oi := ⟨some 12, _, _, _, _, _⟩) (v := ?_) rfl (by kernel_rfl) (by kernel_rfl) (by kernel_rfl) (fun _ _ _ h => h) (Or.inl ⟨by rfl, ?_⟩) (by assumption) ?_
  rotate_left
  · intro w hSw; (try dsimp only at hSw); go_simp; (all_goals with_reducible rfl)
  simp only [Act.put, List.setIfInBounds_toArray, List.set_cons_zero, List.set_cons_succ]
  refine wpAnyH_take (i := 10) (oi := ⟨some 13, _, _, _, _, _⟩) (v := ?_) rfl (by kernel_rfl) (by kernel_rfl) (by kernel_rfl) (fun _ _ _ h => h) (Or.inl ⟨by rfl, ?_⟩) (by assumption) ?_
  rotate_left
  · intro w hSw; (try dsimp only at hSw); go_simp; (all_goals with_reducible rfl)
  simp only [Act.put, List.setIfInBounds_toArray, List.set_cons_zero, List.set_cons_succ]
  refine wpAnyH_take (i := 11) (oi := ⟨some 14, _, _, _, _, _⟩) (v := ?_) rfl (by kernel_rfl) (by kernel_rfl) (by kernel_rfl) (fun _ _ _ h => h) (Or.inl ⟨by rfl, ?_⟩) (by assumption) ?_
  rotate_left
  · intro w hSw; (try dsimp only at hSw); go_simp; (all_goals with_reducible rfl)
  simp only [Act.put, List.setIfInBounds_toArray, List.set_cons_zero, List.set_cons_succ]
  refine wpAnyH_take (i := 12) (oi := ⟨some 15, _, _, _, _, _⟩) (v := ?_) rfl (by kernel_rfl) (by kernel_rfl) (by kernel_rfl) (fun _ _ _ h => h) (Or.inl ⟨by rfl, ?_⟩) (by assumption) ?_
  rotate_left
  · intro w hSw; (try dsimp only at hSw); go_simp; (all_goals with_reducible rfl)
  simp only [Act.put, List.setIfInBounds_toArray, List.set_cons_zero, List.set_cons_succ]
  refine wpAnyH_ready (rs := [13]) (by kernel_rfl) (by simp) ?_
  refine AllReadyH.cons (o := ⟨some 16, _, _, _, _, _⟩) rfl (fun K hK => ?_) AllReadyH.nil
  go_simp
  refine (mSize_any _ _ _ _ _ _ a b c e).mono ?_; rintro e2 wy ⟨rfl, ky⟩; have sz := keep5 ky (by assumption)
  go_wp2_with fail
  refine hK.out _ _ ?_ (fun hHeld => ?_)
  · (try dsimp only); (first | assumption | exact s1)
  clear hK K
  try simp only [Act.put, List.setIfInBounds_toArray, List.set_cons_zero, List.set_cons_succ]
  refine wpAnyH_take (i := 14) (oi := ⟨some 17, _, _, _, _, _⟩) (v := ?_) rfl (by kernel_rfl) (by kernel_rfl) (by kernel_rfl) (fun _ _ _ h => h) (Or.inl ⟨by rfl, ?_⟩) (by assumption) ?_
  rotate_left
  · intro w hSw; (try dsimp only at hSw); go_simp; (all_goals with_reducible rfl)
  simp only [Act.put, List.setIfInBounds_toArray, List.set_cons_zero, List.set_cons_succ]
  refine wpAnyH_take (i := 15) (oi := ⟨some 18, _, _, _, _, _⟩) (v := ?_) rfl (by kernel_rfl) (by kernel_rfl) (by kernel_rfl) (fun _ _ _ h => h) (Or.inl ⟨by rfl, ?_⟩) (by assumption) ?_
  rotate_left
  · intro w hSw; (try dsimp only at hSw); go_simp; (all_goals with_reducible rfl)
  simp only [Act.put, List.setIfInBounds_toArray, List.set_cons_zero, List.set_cons_succ]
  refine wpAnyH_take (i := 16) (oi := ⟨some 19, _, _, _, _, _⟩) (v := ?_) rfl (by kernel_rfl) (by kernel_rfl) (by kernel_rfl) (fun _ _ _ h => h) (Or.inl ⟨by rfl, ?_⟩) (by assumption) ?_
  rotate_left
  · intro w hSw; (try dsimp only at hSw); go_simp; (all_goals with_reducible rfl)
  simp only [Act.put, List.setIfInBounds_toArray, List.set_cons_zero, List.set_cons_succ]
  refine wpAnyH_take (i := 17) (oi := ⟨some 20, _, _, _, _, _⟩) (v := ?_) rfl (by kernel_rfl) (by kernel_rfl) (by kernel_rfl) (fun _ _ _ h => h) (Or.inl ⟨by rfl, ?_⟩) (by assumption) ?_
  rotate_left
  · intro w hSw; (try dsimp only at hSw); go_simp; (all_goals with_reducible rfl)
  simp only [Act.put, List.setIfInBounds_toArray, List.set_cons_zero, List.set_cons_succ]
  refine wpAnyH_take (i := 18) (oi := ⟨some 21, _, _, _, _, _⟩) (v := ?_) rfl (by kernel_rfl) (by kernel_rfl) (by kernel_rfl) (fun _ _ _ h => h) (Or.inl ⟨by rfl, ?_⟩) (by assumption) ?_
  rotate_left
  · intro w hSw; (try dsimp only at hSw); go_simp; (all_goals with_reducible rfl)
  simp only [Act.put, List.setIfInBounds_toArray, List.set_cons_zero, List.set_cons_succ]
  refine wpAnyH_ready (rs := [19]) (by kernel_rfl) (by simp) ?_
  refine AllReadyH.cons (o := ⟨some 22, _, _, _, _, _⟩) rfl (fun K hK => ?_) AllReadyH.nil
  go_simp
  refine (l1All_terr _ lt _ (HL.out.k5 sz).rt HL.out.bt).mono ?_; rintro e3 wx ⟨rfl, rfl⟩
  go_wp2_with fail
  refine hK.out _ _ ?_ (fun hHeld => ?_)
  · (try dsimp only); (first | assumption | exact s1)
  clear hK K
  try simp only [Act.put, List.setIfInBounds_toArray, List.set_cons_zero, List.set_cons_succ]
  refine wpAnyH_take (i := 20) (oi := ⟨some 23, _, _, _, _, _⟩) (v := ?_) rfl (by kernel_rfl) (by kernel_rfl) (by kernel_rfl) (fun _ _ _ h => h) (Or.inl ⟨by rfl, ?_⟩) (by assumption) ?_
  rotate_left
  · intro w hSw; (try dsimp only at hSw); go_simp; (all_goals with_reducible rfl)
  simp only [Act.put, List.setIfInBounds_toArray, List.set_cons_zero, List.set_cons_succ]
  refine wpAnyH_take (i := 21) (oi := ⟨some 24, _, _, _, _, _⟩) (v := ?_) rfl (by kernel_rfl) (by kernel_rfl) (by kernel_rfl) (fun _ _ _ h => h) (Or.inl ⟨by rfl, ?_⟩) (by assumption) ?_
  rotate_left
  · intro w hSw; (try dsimp only at hSw); go_simp; (all_goals with_reducible rfl)
  simp only [Act.put, List.setIfInBounds_toArray, List.set_cons_zero, List.set_cons_succ]
  refine wpAnyH_take (i := 22) (oi := ⟨some 25, _, _, _, _, _⟩) (v := ?_) rfl (by kernel_rfl) (by kernel_rfl) (by kernel_rfl) (fun _ _ _ h => h) (Or.inl ⟨by rfl, ?_⟩) (by assumption) ?_
  rotate_left
  · intro w hSw; (try dsimp only at hSw); go_simp; (all_goals with_reducible rfl)
  simp only [Act.put, List.setIfInBounds_toArray, List.set_cons_zero, List.set_cons_succ]
  refine wpAnyH_take (i := 23) (oi := ⟨some 26, _, _, _, _, _⟩) (v := ?_) rfl (by kernel_rfl) (by kernel_rfl) (by kernel_rfl) (fun _ _ _ h => h) (Or.inl ⟨by rfl, ?_⟩) (by assumption) ?_
  rotate_left
  · intro w hSw; (try dsimp only at hSw); go_simp; (all_goals with_reducible rfl)
  simp only [Act.put, List.setIfInBounds_toArray, List.set_cons_zero, List.set_cons_succ]
  refine wpAnyH_take (i := 24) (oi := ⟨some 27, _, _, _, _, _⟩) (v := ?_) rfl (by kernel_rfl) (by kernel_rfl) (by kernel_rfl) (fun _ _ _ h => h) (Or.inl ⟨by rfl, ?_⟩) (by assumption) ?_
  rotate_left
  · intro w hSw; (try dsimp only at hSw); go_simp; (all_goals with_reducible rfl)
  simp only [Act.put, List.setIfInBounds_toArray, List.set_cons_zero, List.set_cons_succ]
  refine wpAnyH_ready (rs := [25]) (by kernel_rfl) (by simp) ?_
  refine AllReadyH.cons (o := ⟨some 28, _, _, _, _, _⟩) rfl (fun K hK => ?_) AllReadyH.nil
  go_simp
  refine (mEdges_any _ _ _ _ _ (.slice Ar nr cr) lr _ a b c e (HL.out.k5 sz).rr HL.out.br).mono ?_; rintro e4 wv ⟨rfl, kv⟩; have sv := keep5 kv sz
  go_wp2_with fail
  refine hK.out _ _ ?_ (fun hHeld => ?_)
  · (try dsimp only); (first | assumption | exact s1)
  clear hK K
  try simp only [Act.put, List.setIfInBounds_toArray, List.set_cons_zero, List.set_cons_succ]
  refine wpAnyH_take (i := 26) (oi := ⟨some 29, _, _, _, _, _⟩) (v := ?_) rfl (by kernel_rfl) (by kernel_rfl) (by kernel_rfl) (fun _ _ _ h => h) (Or.inl ⟨by rfl, ?_⟩) (by assumption) ?_
  rotate_left
  · intro w hSw; (try dsimp only at hSw); go_simp; (all_goals with_reducible rfl)
  simp only [Act.put, List.setIfInBounds_toArray, List.set_cons_zero, List.set_cons_succ]
  refine wpAnyH_take (i := 27) (oi := ⟨some 30, _, _, _, _, _⟩) (v := ?_) rfl (by kernel_rfl) (by kernel_rfl) (by kernel_rfl) (fun _ _ _ h => h) (Or.inl ⟨by rfl, ?_⟩) (by assumption) ?_
  rotate_left
  · intro w hSw; (try dsimp only at hSw); go_simp; (all_goals with_reducible rfl)
  simp only [Act.put, List.setIfInBounds_toArray, List.set_cons_zero, List.set_cons_succ]
  refine wpAnyH_take (i := 28) (oi := ⟨some 31, _, _, _, _, _⟩) (v := ?_) rfl (by kernel_rfl) (by kernel_rfl) (by kernel_rfl) (fun _ _ _ h => h) (Or.inl ⟨by rfl, ?_⟩) (by assumption) ?_
  rotate_left
  · intro w hSw; (try dsimp only at hSw); go_simp; (all_goals with_reducible rfl)
  simp only [Act.put, List.setIfInBounds_toArray, List.set_cons_zero, List.set_cons_succ]
  refine wpAnyH_take (i := 29) (oi := ⟨some 32, _, _, _, _, _⟩) (v := ?_) rfl (by kernel_rfl) (by kernel_rfl) (by kernel_rfl) (fun _ _ _ h => h) (Or.inl ⟨by rfl, ?_⟩) (by assumption) ?_
  rotate_left
  · intro w hSw; (try dsimp only at hSw); go_simp; (all_goals with_reducible rfl)
  simp only [Act.put, List.setIfInBounds_toArray, List.set_cons_zero, List.set_cons_succ]
  refine wpAnyH_take (i := 30) (oi := ⟨some 33, _, _, _, _, _⟩) (v := ?_) rfl (by kernel_rfl) (by kernel_rfl) (by kernel_rfl) (fun _ _ _ h => h) (Or.inl ⟨by rfl, ?_⟩) (by assumption) ?_
  rotate_left
  · intro w hSw; (try dsimp only at hSw); go_simp; (all_goals with_reducible rfl)
  simp only [Act.put, List.setIfInBounds_toArray, List.set_cons_zero, List.set_cons_succ]
  refine wpAnyH_ready (rs := [31]) (by kernel_rfl) (by simp) ?_
  refine AllReadyH.cons (o := ⟨some 34, _, _, _, _, _⟩) rfl (fun K hK => ?_) AllReadyH.nil
  go_simp
  refine (mEdges_any _ _ _ _ _ (.slice Ad nd cd) ld _ a b c e (HL.out.k5 sv).rd HL.out.bd).mono ?_; rintro e5 wu ⟨rfl, ku⟩; have su := keep5 ku sv
  go_wp2_with fail
  refine hK.out _ _ ?_ (fun hHeld => ?_)
  · (try dsimp only); (first | assumption | exact s1)
  clear hK K
  try simp only [Act.put, List.setIfInBounds_toArray, List.set_cons_zero, List.set_cons_succ]
  refine wpAnyH_take (i := 32) (oi := ⟨some 35, _, _, _, _, _⟩) (v := ?_) rfl (by kernel_rfl) (by kernel_rfl) (by kernel_rfl) (fun _ _ _ h => h) (Or.inl ⟨by rfl, ?_⟩) (by assumption) ?_
  rotate_left
  · intro w hSw; (try dsimp only at hSw); go_simp; (all_goals with_reducible rfl)
  simp only [Act.put, List.setIfInBounds_toArray, List.set_cons_zero, List.set_cons_succ]
  refine wpAnyH_ready (rs := [33]) (by kernel_rfl) (by simp) ?_
  refine AllReadyH.cons (o := ⟨some 2, _, _, _, _, _⟩) rfl (fun K hK => ?_) AllReadyH.nil
  go_simp
  refine hK.out _ _ ?_ (fun hHeld => ?_)
  · (try dsimp only); (first | assumption | exact s1)
  clear hK K
  try simp only [Act.put, List.setIfInBounds_toArray, List.set_cons_zero, List.set_cons_succ]
  refine wpAnyH_done (by kernel_rfl) ?_ _
  go_wp2_with fail
  go_ret
  exact ⟨rfl, su.2.2.2.2.2⟩

theorem mGood_any (W H : Int) (t r d : Value) (lt lr ld : List Int) (w : World) (hL : Lists w t r d lt lr ld) :
    Calls Tryz.prog 31 #[mp W H t r d] w fun e w' => e = .returned (.bool (mapOk W H lt lr ld)) ∧ Kp w w' := by
  have hL' := hL
  obtain ⟨At, ct, rfl, _⟩ := hL.rt
  obtain ⟨Ar, cr, rfl, _⟩ := hL.rr
  obtain ⟨Ad, cd, rfl, _⟩ := hL.rd
  cases h : sideB W
  · have e : mapOk W H lt lr ld = false := by simp [mapOk, h]
    rw [e]
    exact mGood_no1 W H _ _ _ _ _ _ _ _ _ w h
  · cases h' : sideB H
    · have e : mapOk W H lt lr ld = false := by simp [mapOk, h']
      rw [e]
      exact mGood_no2 W H _ _ _ _ _ _ _ _ _ w h h'
    · by_cases hn : (lt.length : Int) = W * H
      · cases h4 : lt.all terrB
        · have e : mapOk W H lt lr ld = false := by simp only [mapOk, h4, Bool.false_and, Bool.and_false]
          rw [e]
          exact mGood_no4 W H _ _ _ _ _ _ _ _ _ lt lr ld w hL' h h' hn h4
        · cases h5 : edgesOk W H lr
          · have e : mapOk W H lt lr ld = false := by simp only [mapOk, h5, Bool.false_and, Bool.and_false]
            rw [e]
            exact mGood_no5 W H _ _ _ _ _ _ _ _ _ lt lr ld w hL' h h' hn h4 h5
          · have e : mapOk W H lt lr ld = edgesOk W H ld := by simp only [mapOk, h, h', hn, h4, h5, Bool.true_and, decide_true]
            rw [e]
            exact mGood_yes W H _ _ _ _ _ _ _ _ _ lt lr ld w hL' h h' hn h4 h5
      · have e : mapOk W H lt lr ld = false := by simp [mapOk, hn]
        rw [e]
        exact mGood_no3 W H _ _ _ _ _ _ _ _ _ lt lr ld w hL' h h' hn

end Go.Proofs.YtmolpkjdjkhnpaaGreatDoor

/-
  The functions on places and edges of a map, the program's and the reference's, return what plain functions say, and change nothing that was there. The table of directions holds what the program's text lays.
-/
namespace Go.Proofs.YtmolpkjdjkhnpaaGreatDoor
open Go.RowKit

theorem mapOk_side {W H : Int} {lt lr ld : List Int} (h : mapOk W H lt lr ld = true) : 1 ≤ W ∧ W ≤ 10 ∧ 1 ≤ H ∧ H ≤ 10 := by
  simp only [mapOk, Bool.and_eq_true] at h
  exact ⟨(sideB_true h.1).1, (sideB_true h.1).2, (sideB_true h.2.1).1, (sideB_true h.2.1).2⟩

theorem l1In_dir (x : Int) (w : World) : Calls Tryz.prog 59 #[.int .i64 x, .int .i64 0, .int .i64 5] w fun e w' => e = .returned (.bool (dirB x)) ∧ w = w' := l1In_gen x 0 5 w

theorem edgesOk_one (W H x : Int) : edgesOk W H [x] = edgeB W H x := by
  unfold edgesOk edgesFrom edgesFrom
  cases h : edgeB W H x
  · rfl
  · have := inB_true (edgeB_true h)
    simp
    omega
theorem one_newI (w : World) (v : Value) (T : TypeId) (x : Int) (hv : v = .int .i64 x) : RdI (w.alloc (.cells #[v] T)) (.slice (some ⟨w.heap.size, 0, none⟩) 1 1) [x] := by
  subst hv
  refine ⟨_, _, rfl, fun _ => ⟨w.heap.size, 0, rfl, fun i y hy => ?_⟩⟩
  match i, hy with
  | 0, hy =>
    simp at hy
    subst hy
    simp [go_sem]
end Go.Proofs.YtmolpkjdjkhnpaaGreatDoor
