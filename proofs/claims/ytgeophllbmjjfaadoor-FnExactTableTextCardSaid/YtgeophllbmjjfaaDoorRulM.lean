/-
  Rules as plain data: terrains, kinds, names, and when they are valid, in the program's order and in the reference's. No program is looked into.
-/
import Derived.Lib.SlicesS
import Derived.Test.YtgeophllbmjjfaaDoorHex
namespace Go.Proofs.YtgeophllbmjjfaaDoor
open Go.RowKit

structure Ter where
  name : ByteArray
  cost : List Int
  shift : Int
  height : Int
  blocks : Bool
structure Knd where
  name : ByteArray
  str : Int
  mov : Int
  stp : Int
  zone : Bool
  view : Int
structure Rul where
  ters : List Ter
  knds : List Knd
  stack : Int
  river : Int
  road : Int
  supply : Int
  turns : Int

def spB (lo hi n : Int) : Bool := decide (lo ≤ n) && decide (n ≤ hi)
def lowB (c : UInt8) : Bool := decide (97 ≤ (c.toNat : Int)) && decide ((c.toNat : Int) ≤ 122)
def lowFrom (l : List UInt8) : Bool := l.all lowB
def nameOk (s : ByteArray) : Bool := spB 1 8 s.size && lowFrom s.data.toList

/-- For each number below n. -/
def allN (n : Nat) (f : Nat → Bool) : Bool := (List.range n).all f
theorem allN_mk {n : Nat} {f : Nat → Bool} (h : ∀ j, j < n → f j = true) : allN n f = true := by
  unfold allN
  rw [List.all_eq_true]
  intro x hx
  exact h x (List.mem_range.1 hx)
theorem allN_no {n : Nat} {f : Nat → Bool} {k : Nat} (hk : k < n) (h : f k = false) : allN n f = false := by
  unfold allN
  rw [List.all_eq_false]
  exact ⟨k, List.mem_range.2 hk, by simp [h]⟩
theorem allN_at {n : Nat} {f : Nat → Bool} (h : allN n f = true) {j : Nat} (hj : j < n) : f j = true := by
  unfold allN at h
  rw [List.all_eq_true] at h
  exact h j (List.mem_range.2 hj)
theorem allN_iff {n : Nat} {f : Nat → Bool} : allN n f = true ↔ ∀ j, j < n → f j = true := ⟨fun h _ hj => allN_at h hj, allN_mk⟩

def hasS (l : List ByteArray) (x : ByteArray) : Bool := decide (0 ≤ Lib.idxOfS l x)
theorem hasS_iff (l : List ByteArray) (x : ByteArray) : hasS l x = true ↔ x ∈ l := by
  unfold hasS
  rw [decide_eq_true_iff]
  exact Lib.idxOfS_nonneg_iff l x
theorem hasS_no {l : List ByteArray} {x : ByteArray} (h : x ∉ l) : hasS l x = false := by
  cases e : hasS l x
  · rfl
  · exact absurd ((hasS_iff l x).1 e) h
def nameAt (l : List ByteArray) (k : Nat) : Bool := nameOk (l.getD k ByteArray.empty) && !hasS (l.take k) (l.getD k ByteArray.empty)
/-- All names are valid and differ. -/
def namesOk (l : List ByteArray) : Bool := allN l.length (nameAt l)

def numT (nk : Nat) (t : Ter) : Bool := decide (t.cost.length = nk) && (t.cost.all (spB 0 9) && (spB (-3) 3 t.shift && spB 0 3 t.height))
def numK (k : Knd) : Bool := spB 1 9 k.str && (spB 0 9 k.mov && (spB 1 4 k.stp && spB 0 4 k.view))
def limB (a b c d e : Int) : Bool := spB 1 4 a && (spB 0 9 b && (spB 1 9 c && (spB 0 20 d && spB 1 30 e)))
def tNames (l : List Ter) : List ByteArray := l.map (·.name)
def kNames (l : List Knd) : List ByteArray := l.map (·.name)
/-- Valid rules, as the program asks. -/
def rulOk (r : Rul) : Bool :=
  (spB 1 6 r.ters.length && (spB 1 4 r.knds.length && limB r.stack r.river r.road r.supply r.turns)) &&
    (r.ters.all (numT r.knds.length) && (r.knds.all numK && (namesOk (tNames r.ters) && namesOk (kNames r.knds))))

/-- The place of a name, or -1. -/
def idxS (l : List ByteArray) (x : ByteArray) : Int := Lib.idxOfS l x
/-- A terrain at its place, as the reference asks. -/
def terAt (l : List Ter) (nk : Nat) (i : Nat) (t : Ter) : Bool :=
  nameOk t.name && (decide (idxS (tNames l) t.name = i) && (decide (t.cost.length = nk) && (t.cost.all (spB 0 9) && (spB (-3) 3 t.shift && spB 0 3 t.height))))
def kndAt (l : List Knd) (i : Nat) (k : Knd) : Bool :=
  nameOk k.name && (decide (idxS (kNames l) k.name = i) && (spB 1 9 k.str && (spB 0 9 k.mov && (spB 1 4 k.stp && spB 0 4 k.view))))
def terF (l : List Ter) (nk : Nat) (i : Nat) : Bool := match l[i]? with | some t => terAt l nk i t | none => true
def kndF (l : List Knd) (i : Nat) : Bool := match l[i]? with | some k => kndAt l i k | none => true
theorem terF_at {l : List Ter} {nk i : Nat} {t : Ter} (h : l[i]? = some t) : terF l nk i = terAt l nk i t := by unfold terF; rw [h]
theorem kndF_at {l : List Knd} {i : Nat} {k : Knd} (h : l[i]? = some k) : kndF l i = kndAt l i k := by unfold kndF; rw [h]

theorem firstOf (f : Nat → ByteArray) (x : ByteArray) : ∀ j, f j = x → ∃ m, m ≤ j ∧ f m = x ∧ ∀ i, i < m → f i ≠ x := by
  intro j
  induction j using Nat.strongRecOn with
  | _ j ih =>
    intro h
    by_cases hx : ∃ i, i < j ∧ f i = x
    · obtain ⟨i, hi, e⟩ := hx
      obtain ⟨m, hm, em, hf⟩ := ih i hi e
      exact ⟨m, by omega, em, hf⟩
    · exact ⟨j, Nat.le_refl _, h, fun i hi e => hx ⟨i, hi, e⟩⟩
theorem idxS_first {l : List ByteArray} {k : Nat} (hk : k < l.length) (hn : ∀ j, j < k → l.getD j ByteArray.empty ≠ l.getD k ByteArray.empty) : idxS l (l.getD k ByteArray.empty) = k := by
  have := Lib.idxOfS_hit l l.length k (l.getD k ByteArray.empty) hk (Nat.le_refl _) rfl hn
  rwa [List.take_length] at this
theorem idxS_eq {l : List ByteArray} {k : Nat} (hk : k < l.length) : decide (idxS l (l.getD k ByteArray.empty) = k) = !hasS (l.take k) (l.getD k ByteArray.empty) := by
  have hgd : ∀ j, j < l.length → l[j]? = some (l.getD j ByteArray.empty) := fun j hj => by simp [List.getD, List.getElem?_eq_getElem hj]
  by_cases hm : l.getD k ByteArray.empty ∈ l.take k
  · rw [(hasS_iff _ _).2 hm]
    obtain ⟨j, hj, e⟩ := List.mem_iff_getElem.1 hm
    have hjk : j < k := by simp at hj; omega
    have ej : l.getD j ByteArray.empty = l.getD k ByteArray.empty := by
      rw [← e]
      simp [List.getD, List.getElem?_eq_getElem (show j < l.length by omega)]
    obtain ⟨m, hmj, em, hf⟩ := firstOf (fun j => l.getD j ByteArray.empty) _ j ej
    have em : l.getD m ByteArray.empty = l.getD k ByteArray.empty := em
    have hf : ∀ i, i < m → l.getD i ByteArray.empty ≠ l.getD k ByteArray.empty := hf
    have h1 : idxS l (l.getD m ByteArray.empty) = m := idxS_first (by omega) (fun j hj => by rw [em]; exact hf j hj)
    rw [em] at h1
    rw [h1]
    have : ¬ ((m : Int) = k) := by omega
    simp [this]
  · rw [hasS_no hm]
    have := idxS_first hk (fun j hj e => hm (by
      rw [← e]
      have : (l.take k)[j]? = some (l.getD j ByteArray.empty) := by rw [List.getElem?_take, if_pos hj]; exact hgd j (by omega)
      exact List.mem_of_getElem? this))
    rw [decide_eq_true this]
    rfl

theorem tName_at {l : List Ter} {i : Nat} {t : Ter} (h : l[i]? = some t) : (tNames l).getD i ByteArray.empty = t.name := by simp [tNames, List.getD, h]
theorem kName_at {l : List Knd} {i : Nat} {t : Knd} (h : l[i]? = some t) : (kNames l).getD i ByteArray.empty = t.name := by simp [kNames, List.getD, h]
theorem lt_of_at {α : Type} {l : List α} {i : Nat} {t : α} (h : l[i]? = some t) : i < l.length := (List.getElem?_eq_some_iff.1 h).1
theorem terF_parts {l : List Ter} {nk i : Nat} {t : Ter} (h : l[i]? = some t) : terF l nk i = (nameAt (tNames l) i && numT nk t) := by
  have e := idxS_eq (l := tNames l) (k := i) (by simpa [tNames] using lt_of_at h)
  rw [tName_at h] at e
  rw [terF_at h]
  unfold terAt nameAt numT
  rw [tName_at h, e, Bool.and_assoc]
theorem kndF_parts {l : List Knd} {i : Nat} {t : Knd} (h : l[i]? = some t) : kndF l i = (nameAt (kNames l) i && numK t) := by
  have e := idxS_eq (l := kNames l) (k := i) (by simpa [kNames] using lt_of_at h)
  rw [kName_at h] at e
  rw [kndF_at h]
  unfold kndAt nameAt numK
  rw [kName_at h, e, Bool.and_assoc]
theorem terF_all {l : List Ter} {nk : Nat} : allN l.length (terF l nk) = true ↔ l.all (numT nk) = true ∧ namesOk (tNames l) = true := by
  unfold namesOk
  rw [allN_iff, allN_iff, List.all_eq_true]
  have hlen : (tNames l).length = l.length := by simp [tNames]
  rw [hlen]
  constructor
  · intro h
    refine ⟨fun t ht => ?_, fun j hj => ?_⟩
    · obtain ⟨i, hi, rfl⟩ := List.mem_iff_getElem.1 ht
      have := h i hi
      rw [terF_parts (List.getElem?_eq_getElem hi), Bool.and_eq_true] at this
      exact this.2
    · have := h j hj
      rw [terF_parts (List.getElem?_eq_getElem hj), Bool.and_eq_true] at this
      exact this.1
  · rintro ⟨h1, h2⟩ j hj
    rw [terF_parts (List.getElem?_eq_getElem hj), Bool.and_eq_true]
    exact ⟨h2 j hj, h1 _ (List.getElem_mem hj)⟩
theorem kndF_all {l : List Knd} : allN l.length (kndF l) = true ↔ l.all numK = true ∧ namesOk (kNames l) = true := by
  unfold namesOk
  rw [allN_iff, allN_iff, List.all_eq_true]
  have hlen : (kNames l).length = l.length := by simp [kNames]
  rw [hlen]
  constructor
  · intro h
    refine ⟨fun t ht => ?_, fun j hj => ?_⟩
    · obtain ⟨i, hi, rfl⟩ := List.mem_iff_getElem.1 ht
      have := h i hi
      rw [kndF_parts (List.getElem?_eq_getElem hi), Bool.and_eq_true] at this
      exact this.2
    · have := h j hj
      rw [kndF_parts (List.getElem?_eq_getElem hj), Bool.and_eq_true] at this
      exact this.1
  · rintro ⟨h1, h2⟩ j hj
    rw [kndF_parts (List.getElem?_eq_getElem hj), Bool.and_eq_true]
    exact ⟨h2 j hj, h1 _ (List.getElem_mem hj)⟩

/-- Valid rules, as the reference asks. -/
def rulS (r : Rul) : Bool :=
  (spB 1 6 r.ters.length && spB 1 4 r.knds.length) && (allN r.ters.length (terF r.ters r.knds.length) && (allN r.knds.length (kndF r.knds) && limB r.stack r.river r.road r.supply r.turns))
theorem rulS_eq (r : Rul) : rulS r = rulOk r := by
  rw [Bool.eq_iff_iff]
  unfold rulS rulOk
  simp only [Bool.and_eq_true, terF_all, kndF_all]
  constructor
  · rintro ⟨⟨a, b⟩, ⟨c, d⟩, ⟨e, f⟩, g⟩
    exact ⟨⟨a, b, g⟩, c, e, d, f⟩
  · rintro ⟨⟨a, b, g⟩, c, e, d, f⟩
    exact ⟨⟨a, b⟩, ⟨c, d⟩, ⟨e, f⟩, g⟩

end Go.Proofs.YtgeophllbmjjfaaDoor
