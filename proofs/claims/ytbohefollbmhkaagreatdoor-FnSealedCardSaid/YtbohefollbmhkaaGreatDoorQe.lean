/-
  Texts of this seat in one module: DiP, DiY, DiO, SaI, Law, OpenI, RdS, RowC, MarkN, SzP.
-/
import Derived.Deep.QuietTactic
import Derived.BigQuiet
import Derived.Test.YtbohefollbmhkaaGreatDoorRows
import Derived.ProofKit
import Derived.OpenVars
import Derived.Below
import Derived.Lib.SmallJoins
import Derived.OpenShut
import Derived.Deep.Fields
import Derived.Deep.Slices
import Derived.Test.YtbohefollbmhkaaGreatDoorQa
import Derived.Test.YtbohefollbmhkaaGreatDoorQb
import Derived.Test.YtbohefollbmhkaaGreatDoorQd

/-
  Shuffles: both sides. Nothing that was there is changed.
-/
namespace Go.Proofs.YtbohefollbmhkaaGreatDoor
open Go.RowKit

def shuB (s n : Int) : Bool := seedB s && spB 0 40 n
def idL : Nat → List Int
  | 0 => []
  | n + 1 => idL n ++ [(n : Int)]
def shS (s : Int) (l : List Int) (k : Nat) : List Int := (l.set k (getI l (belN s k (k + 1)).toNat)).set (belN s k (k + 1)).toNat (getI l k)
def shuR (s : Int) : Nat → List Int → List Int
  | 0, l => l
  | k + 1, l => shuR s k (shS s l (k + 1))
def shuL (s : Int) (n : Nat) : List Int := shuR s (n - 1) (idL n)
theorem idL_len : ∀ n, (idL n).length = n
  | 0 => rfl
  | n + 1 => by rw [idL, List.length_append, idL_len n]; rfl
theorem shS_len (s : Int) (l : List Int) (k : Nat) : (shS s l k).length = l.length := by simp [shS]
theorem shuR_len (s : Int) : ∀ (k : Nat) (l : List Int), (shuR s k l).length = l.length
  | 0, _ => rfl
  | k + 1, l => by rw [shuR, shuR_len s k, shS_len]
theorem shuL_len (s : Int) (n : Nat) : (shuL s n).length = n := by rw [shuL, shuR_len, idL_len]
theorem id_put {k n : Nat} (h : k < n) : (idL k ++ List.replicate (n - k) 0).set k (k : Int) = idL (k + 1) ++ List.replicate (n - (k + 1)) 0 := by
  rw [List.set_append_right _ _ (by rw [idL_len]; omega), idL_len, Nat.sub_self, idL, List.append_assoc]
  obtain ⟨d, hd⟩ : ∃ d, n - k = d + 1 := ⟨n - k - 1, by omega⟩
  rw [hd, show n - (k + 1) = d by omega, List.replicate_succ]
  rfl
theorem belB_in {s : Int} {k : Nat} (h : seedB s = true) (hk : k ≤ 40) : belB s k ((k : Int) + 1) = true := by
  have h1 : numB (k : Int) = true := by simp [numB, spB]; omega
  have h2 : spB 1 1000000 ((k : Int) + 1) = true := by simp [spB]; omega
  simp [belB, h, h1, h2]

end Go.Proofs.YtbohefollbmhkaaGreatDoor

/-
  How often each face occurs: both sides. Nothing that was there is changed.
-/
namespace Go.Proofs.YtbohefollbmhkaaGreatDoor
open Go.RowKit

def facB (s n : Int) : Bool := seedB s && spB 0 600 n
def facL (s : Int) : Nat → List Int
  | 0 => List.replicate 6 0
  | k + 1 => (facL s k).set (dieN s k - 1).toNat (getI (facL s k) (dieN s k - 1).toNat + 1)
theorem facL_len (s : Int) : ∀ k, (facL s k).length = 6
  | 0 => by simp [facL]
  | k + 1 => by rw [facL, List.length_set, facL_len s k]
theorem facL_bd (s : Int) : ∀ k : Nat, NB (k : Int) (facL s k)
  | 0 => by
    intro j x hx
    rw [facL, List.getElem?_replicate] at hx
    split at hx
    · obtain rfl := Option.some.inj hx
      simp
    · cases hx
  | k + 1 => by
    have ih := facL_bd s k
    have hg := ih.get (by omega) (dieN s k - 1).toNat
    intro j y hy
    rw [facL, List.getElem?_set] at hy
    split at hy
    · split at hy
      · obtain rfl := Option.some.inj hy
        omega
      · cases hy
    · have := ih j y hy
      omega

end Go.Proofs.YtbohefollbmhkaaGreatDoor

/-
  Plain facts on shuffles and faces: a shuffle has each number below its length once; the faces' counts add up. No program is looked into.
-/
namespace Go.Proofs.YtbohefollbmhkaaGreatDoor
open Go.RowKit

theorem getI_set (l : List Int) (k : Nat) (x : Int) (j : Nat) : getI (l.set k x) j = if k = j ∧ k < l.length then x else getI l j := by
  unfold getI
  rw [List.getElem?_set]
  by_cases h : k = j
  · subst h
    by_cases h2 : k < l.length
    · simp [h2]
    · simp [h2]
  · simp [h]
/-- Each number below n stands in the list once. -/
def Inj (n : Nat) (l : List Int) : Prop := l.length = n ∧ (∀ j, j < n → 0 ≤ getI l j ∧ getI l j < n) ∧ ∀ i j, i < n → j < n → getI l i = getI l j → i = j
theorem idL_get : ∀ (n j : Nat), j < n → getI (idL n) j = (j : Int)
  | 0, j, h => absurd h (by omega)
  | n + 1, j, h => by
    unfold getI idL
    by_cases hj : j < n
    · have := idL_get n j hj
      unfold getI at this
      rw [List.getElem?_append_left (by rw [idL_len]; omega)]
      exact this
    · obtain rfl : j = n := by omega
      rw [List.getElem?_append_right (by rw [idL_len]; omega), idL_len]
      simp
theorem inj_id (n : Nat) : Inj n (idL n) := by
  refine ⟨idL_len n, fun j hj => ?_, fun i j hi hj e => ?_⟩
  · rw [idL_get n j hj]
    omega
  · rw [idL_get n i hi, idL_get n j hj] at e
    omega
theorem inj_step {n : Nat} {l : List Int} {s : Int} {k : Nat} (h : Inj n l) (hk : k < n) : Inj n (shS s l k) := by
  obtain ⟨hl, hb, hi⟩ := h
  have hD := belN_bd s (k : Int) ((k : Int) + 1) (by omega)
  obtain ⟨i, hi0⟩ : ∃ i : Nat, i = (belN s (k : Int) ((k : Int) + 1)).toNat := ⟨_, rfl⟩
  have hin : i < n := by omega
  have hg : ∀ j, getI (shS s l k) j = getI l (if i = j then k else if k = j then i else j) := fun j => by
    unfold shS
    rw [← hi0, getI_set, getI_set, List.length_set, hl]
    by_cases h1 : i = j
    · simp [h1, h1 ▸ hin]
    · by_cases h2 : k = j
      · simp [h1, h2, h2 ▸ hk]
      · simp [h1, h2]
  have ht : ∀ j, j < n → (if i = j then k else if k = j then i else j) < n := fun j hj => by
    split
    · exact hk
    · split
      · exact hin
      · exact hj
  refine ⟨by rw [shS_len, hl], fun j hj => ?_, fun a c ha hc e => ?_⟩
  · rw [hg]
    exact hb _ (ht j hj)
  · rw [hg, hg] at e
    have := hi _ _ (ht a ha) (ht c hc) e
    clear e hg ht
    split at this <;> split at this <;> (try split at this) <;> (try split at this) <;> omega
theorem inj_shuR {n : Nat} {s : Int} : ∀ (k : Nat) (l : List Int), k < n → Inj n l → Inj n (shuR s k l)
  | 0, _, _, h => h
  | k + 1, l, hk, h => inj_shuR k _ (by omega) (inj_step h hk)
theorem inj_shuL (s : Int) (n : Nat) : Inj n (shuL s n) := by
  unfold shuL
  rcases Nat.eq_zero_or_pos n with h | h
  · subst h
    exact inj_id 0
  · exact inj_shuR _ _ (by omega) (inj_id n)

/-- The sum of the first numbers of a list. -/
def sumT (l : List Int) : Nat → Int
  | 0 => 0
  | q + 1 => sumT l q + getI l q
theorem facL_sum (s : Int) : ∀ k : Nat, sumT (facL s k) 6 = (k : Int)
  | 0 => by
    show sumT (List.replicate 6 0) 6 = 0
    decide
  | k + 1 => by
    have ih := facL_sum s k
    have hl := facL_len s k
    have hd := dieN_bd s (k : Int)
    obtain ⟨J, hJ⟩ : ∃ J : Nat, J = (dieN s k - 1).toNat := ⟨_, rfl⟩
    have hJ6 : J < 6 := by omega
    rw [facL, ← hJ]
    generalize facL s k = L at *
    simp only [sumT, getI_set, hl] at ih ⊢
    rcases (show J = 0 ∨ J = 1 ∨ J = 2 ∨ J = 3 ∨ J = 4 ∨ J = 5 by omega) with h | h | h | h | h | h <;> subst h <;> simp <;> omega
theorem sumT_bd {l : List Int} {B : Int} (hB : 0 ≤ B) (h : NB B l) : ∀ q : Nat, 0 ≤ sumT l q ∧ sumT l q ≤ (q : Int) * B
  | 0 => by simp [sumT]
  | q + 1 => by
    have ih := sumT_bd hB h q
    have hg := h.get hB q
    have e : ((q + 1 : Nat) : Int) * B = (q : Int) * B + B := by rw [Int.natCast_succ, Int.add_mul]; omega
    rw [sumT, e]
    omega

end Go.Proofs.YtbohefollbmhkaaGreatDoor

/-
  Comparing two lists of numbers that read the same, adding a list up. Nothing that was there is changed.
-/
namespace Go.Proofs.YtbohefollbmhkaaGreatDoor
open Go.RowKit

theorem sameInts_any (va vb : Value) (l : List Int) (w : World) (ha : RdI w va l) (hb : RdI w vb l) (hl : l.length ≤ 1048576) :
    Calls Tryz.prog 16 #[va, vb] w fun e w' => e = .returned (.bool true) ∧ Kp w w' := by
  obtain ⟨A, ca, rfl, ha⟩ := ha
  obtain ⟨B, cb, rfl, hb⟩ := hb
  have HA := Lib.hid ha
  have HB := Lib.hid hb
  clear ha hb
  generalize hn : l.length = n at *
  have HN := Lib.hid hn
  clear hn
  have hne : ((n : Int) != (n : Int)) = false := by simp
  go_enter Tryz.func16, Tryz.ntmps16
  go_wp2_with fail
  go_loopw [13] (fun i wr => ∃ k : Nat, k ≤ n ∧ i = .int .i64 k ∧ Kp w wr) (fun i _ => n - (intOf i).toNat)
  case atStart => exact ⟨0, by omega, rfl, Kp.refl _⟩
  case round =>
    obtain ⟨k, hk, rfl, kr⟩ := hrel
    by_cases hlt : k < n
    · obtain ⟨ga, oa, rfl, ca'⟩ := HA.out (by omega)
      obtain ⟨gb, ob, rfl, cb'⟩ := HB.out (by omega)
      obtain ⟨x, hx⟩ : ∃ x, l[k]? = some x := ⟨l[k]'(by have := HN.out; omega), List.getElem?_eq_getElem _⟩
      have a0 := kr.cell (ca' k x hx)
      have b0 := kr.cell (cb' k x hx)
      clear ca' cb' hx
      have hlt' : (k : Int) < n := by omega
      go_wp2_with fail
      go_quiet (fail)
      go_wp2_with fail
      go_roundw
      case rel => exact ⟨k + 1, by omega, by go_num, kr.drewN _⟩
      case measure => simp [intOf]; omega
    · obtain rfl : k = n := by omega
      go_wp2_with fail
      go_ret
      exact ⟨rfl, kr⟩

end Go.Proofs.YtbohefollbmhkaaGreatDoor

/-
  A law that returns true and leaves all old memory as it was meets its row: the arguments and the named variables read as before. No program is looked into here.
-/
namespace Go.Proofs.YtbohefollbmhkaaGreatDoor
open Go.ChangeShapes Go.WideShapes Go.ChangeAt Go.RowKit Go.Joins

/-- Each type of the list can be read and is a row of the program's table. -/
def rowedAll (P : Program) (ts : List TypeId) : Bool := ts.all fun t => P.readableRec t && decide (t < P.types.size)

theorem args_kept {H : Type} {enc : TypeId × Value → H} {P : Program} (hl : laidOutB P = true) {W W' : World} (hb : Below W.heap.size W W') :
    ∀ (ts : List TypeId) (vs : List Value) (ds : List (DataW H)) (ps : List MemPlace), rowedAll P ts = true → (∀ x ∈ ps, x.block < W.heap.size) →
      DataW.TrodAll enc P W 0 (fun _ => true) true ts vs ds ps → DataW.TrodAll enc P W' 0 (fun b => decide (b < W.heap.size)) true ts vs ds ps
  | [], [], [], _, _, _, h => h
  | t :: ts, v :: vs, d :: ds, ps, hr, hlt, h => by
    obtain ⟨p, q, h1, h2, rfl⟩ := h
    simp only [rowedAll, List.all_cons, Bool.and_eq_true] at hr
    exact ⟨p, q, Below.trod hl hr.1.1 (of_decide_eq_true hr.1.2) h1 hb (fun x hx => hlt x (List.mem_append_left _ hx)),
      args_kept hl hb ts vs ds q (by simpa [rowedAll] using hr.2) (fun x hx => hlt x (List.mem_append_right _ hx)) h2, rfl⟩
  | [], [], _ :: _, _, _, _, h => h.elim
  | [], _ :: _, _, _, _, _, h => h.elim
  | _ :: _, [], _, _, _, _, h => h.elim
  | _ :: _, _ :: _, [], _, _, _, h => h.elim

theorem law_post {H : Type} {enc : TypeId × Value → H} {P : Program} {f : Func} {s : ChangeSpec} {apart fresh handsOn : Bool} {W W' : World} {args : Array Value} {ds gs : List (DataW H)} {before : List MemPlace} {tb : TypeId}
    (hW : DataW.Whole enc P f.params.toList s.vars apart W args.toList ds gs before)
    (hl : laidOutB P = true) (hr : rowedAll P f.params.toList = true) (hv : varsRowed P s.vars = true)
    (hres : f.resultTypes = #[tb]) (htb : P.underlying tb = some .bool)
    (hfn : s.fn H (ds ++ gs) = { results := [.lit (.bool true)], args := ds, vars := gs }) (hb : Below W.heap.size W W') :
    s.post enc P f apart fresh handsOn false W args (.bool true) W' := by
  have hlt := hW.lt
  have hW0 := hW
  obtain ⟨p, q, hA, hV, rfl, _, _⟩ := hW
  refine ⟨ds, gs, p ++ q, [], p, q, hW0, ?_, ?_, ?_, hb.frame _, fun h => by cases h⟩
  · rw [hfn, hres]
    exact trodAll_mk1 (shut_bool htb true)
  · rw [hfn]
    exact args_kept hl hb _ _ _ _ hr (fun x hx => hlt x (List.mem_append_left _ hx)) hA
  · rw [hfn]
    exact Below.trodVars hl hb hv hV

theorem own : ownKnob Tryz.prog.godebug = none := by kernel_rfl
theorem laidOut : laidOutB Tryz.prog = true := by kernel_rfl
end Go.Proofs.YtbohefollbmhkaaGreatDoor

/-
  An argument that is a slice of integers reads as a list.
-/
namespace Go.Proofs.YtbohefollbmhkaaGreatDoor
open Go.ChangeShapes Go.WideShapes Go.ChangeAt Go.RowKit Go.Joins

theorem cellsInt1 : Tryz.prog.cellsOf 3 = 1 := by kernel_rfl
set_option maxRecDepth 100000 in
theorem rdI_of_trod {H : Type} {enc : TypeId × Value → H} {W : World} {base : Nat} {v : Value} {d : DataW H} {p : List MemPlace}
    (hv : Value.okWide Tryz.prog W .any base 43 v) (h : DataW.Trod enc Tryz.prog W 0 (fun _ => true) true 43 v d p) : ∃ l, RdI W v l := by
  obtain ⟨a0, len, cap, rfl⟩ := okWide_slice Tryz.underlying43 hv
  obtain ⟨fuel, hf⟩ := h
  rcases open_ints Tryz.underlying43 Tryz.underlying3 cellsInt1 hf with ⟨hcs, hx⟩ | ⟨a, len', cap', zs, hcs, _, hl, hm, hz, hx, hcell, hwz⟩
  · simp only [Value.cells, List.cons.injEq, Value.slice.injEq, and_true] at hcs
    obtain ⟨rfl, rfl, rfl⟩ := hcs
    exact ⟨[], none, 0, rfl, fun h0 => by simp at h0⟩
  · simp only [Value.cells, List.cons.injEq, Value.slice.injEq, and_true] at hcs
    obtain ⟨rfl, rfl, rfl⟩ := hcs
    have hzl : len ≤ zs.length := by rw [hz]; simpa using hl
    have hlen : (zs.take len).length = len := by rw [List.length_take]; omega
    refine ⟨zs.take len, some a, cap, by rw [hlen], fun h0 => ?_⟩
    obtain ⟨b, off, rfl, hc⟩ := ints_at hcell (by omega)
    refine ⟨b, off, rfl, fun i x hi => ?_⟩
    rw [List.getElem?_take] at hi
    split at hi
    · have hil : i < zs.length := (List.getElem?_eq_some_iff.1 hi).1
      rw [hc i hil]
      simp [List.getD, hi]
    · cases hi

set_option maxRecDepth 100000 in
/-- An argument that is a slice of integers: the list, its length and its numbers within Go's own bounds. -/
theorem rdB_of_trod {H : Type} {enc : TypeId × Value → H} {W : World} {v : Value} {n : Nat} {y : DataW H × List MemPlace}
    (hf : DataW.trod enc Tryz.prog W 0 (fun _ => true) true n 43 [v] = some y) : ∃ l, RdI W v l ∧ l.length ≤ 9223372036854775807 ∧ ∀ x ∈ l, -9223372036854775808 ≤ x ∧ x ≤ 9223372036854775807 := by
  rcases open_ints Tryz.underlying43 Tryz.underlying3 cellsInt1 hf with ⟨hcs, hx⟩ | ⟨a, len, cap, zs, hcs, _, hl, hm, hz, hx, hcell, hwz⟩
  · simp only [List.cons.injEq, and_true] at hcs
    obtain rfl := hcs
    exact ⟨[], ⟨none, 0, rfl, fun h0 => by simp at h0⟩, by simp, fun x hx => by cases hx⟩
  · simp only [List.cons.injEq, and_true] at hcs
    obtain rfl := hcs
    have hzl : len ≤ zs.length := by rw [hz]; simpa using hl
    have hlen : (zs.take len).length = len := by rw [List.length_take]; omega
    refine ⟨zs.take len, ⟨some a, cap, by rw [hlen], fun h0 => ?_⟩, by rw [hlen]; unfold maxLen at hm; omega, fun x hx => bounds_i64 (hwz x (List.mem_of_mem_take hx))⟩
    obtain ⟨b, off, rfl, hc⟩ := ints_at hcell (by omega)
    refine ⟨b, off, rfl, fun i x hi => ?_⟩
    rw [List.getElem?_take] at hi
    split at hi
    · have hil : i < zs.length := (List.getElem?_eq_some_iff.1 hi).1
      rw [hc i hil]
      simp [List.getD, hi]
    · cases hi
end Go.Proofs.YtbohefollbmhkaaGreatDoor

/-
  Arguments that are structs, and slices of structs: their cells, read one by one.
-/
namespace Go.Proofs.YtbohefollbmhkaaGreatDoor
open Go.ChangeShapes Go.WideShapes Go.ChangeAt Go.RowKit Go.Joins Go.Deep

/-- The cells of a struct whose fields take one cell each, read one by one. -/
theorem fields_of_trod {H : Type} {enc : TypeId × Value → H} {P : Program} {w : World} {base n0 fuel : Nat} {spare : Nat → Bool} {held : Bool} {t : TypeId} {fs : Array Field} {cs : List Value} {x : DataW H × List MemPlace}
    (hs : P.underlying t = some (.struct fs)) (hone : Go.Deep.oneCellFields P fs = true) (hn : fs.size = n0) (hl : cs.length = n0) (hf : DataW.trod enc P w base spare held fuel t cs = some x) :
    ∃ n : Nat, ∀ (j : Nat) (f : Field), fs[j]? = some f → ∃ c y, cs[j]? = some c ∧ DataW.trod enc P w base spare held n f.type [c] = some y := by
  obtain ⟨xs, n, _, _, _, hlen, hg⟩ := DataW.trod_struct hs hf
  refine ⟨n, fun j f hj => ?_⟩
  have hjl : j < fs.size := (Array.getElem?_eq_some_iff.1 hj).1
  obtain ⟨o, k⟩ := Go.Deep.hone_of hone j f hj
  have h1 := hg j f hj
  rw [o, k] at h1
  have e : (cs.drop j).take 1 = [cs[j]'(by omega)] := by
    rw [List.drop_eq_getElem_cons (by omega)]
    rfl
  rw [e] at h1
  exact ⟨_, _, List.getElem?_eq_getElem (by omega), h1.trans (List.getElem?_eq_getElem (by omega))⟩

theorem add_none' (b off k : Nat) : (⟨b, off, none⟩ : Addr).add k = ⟨b, off + k, none⟩ := by
  unfold Addr.add
  split
  · rename_i h
    simp_all
  · rfl
theorem RdI.shape {w : World} {v : Value} {l : List Int} (h : RdI w v l) : ∃ A c, v = .slice A l.length c := by
  obtain ⟨A, c, e, _⟩ := h
  exact ⟨A, c, e⟩

/-- A slice of structs of sz cells each reads as a list, where each element's cells do. -/
theorem rd_structs {α : Type} {H : Type} {enc : TypeId × Value → H} {W : World} {t e : TypeId} {sz fuel : Nat} {v : Value} {y : DataW H × List MemPlace} (At : Nat → Nat → α → Prop) (hsz : Tryz.prog.cellsOf e = sz)
    (ht : Tryz.prog.underlying t = some (.slice e)) (hf : DataW.trod enc Tryz.prog W 0 (fun _ => true) true fuel t [v] = some y)
    (one : ∀ (a : Addr) (fu : Nat) (cs : List Value) (x : DataW H × List MemPlace), cs.length = sz → (∀ j, j < sz → W.cell? (a.add j) = cs[j]?) → DataW.trod enc Tryz.prog W 0 (fun _ => true) true fu e cs = some x → a.spot = none ∧ ∃ z : α, At a.block a.off z) :
    ∃ (A : Option Addr) (n c : Nat) (l : List α), v = .slice A n c ∧ l.length = n ∧ n ≤ maxLen ∧ (0 < n → ∃ g off, A = some ⟨g, off, none⟩ ∧ ∀ i x, l[i]? = some x → At g (off + i * sz) x) := by
  rcases open_slice ht hf with ⟨hcs, _⟩ | ⟨a, len, cap, m, n, D, Pl, hcs, _, hl, hm, hmm, _, hi⟩
  · simp only [List.cons.injEq, and_true] at hcs
    exact ⟨none, 0, 0, [], hcs, rfl, by decide, fun h => absurd h (by omega)⟩
  · simp only [List.cons.injEq, and_true] at hcs
    have hmc : m = cap := by simpa using hmm
    have each : ∀ i, i < len → (a.add (i * sz)).spot = none ∧ ∃ z : α, At (a.add (i * sz)).block (a.add (i * sz)).off z := by
      intro i hil
      obtain ⟨cs', hc, ht'⟩ := hi i (by omega)
      rw [hsz] at hc
      obtain ⟨_, hcl, hat⟩ := World.cells?_some hc
      exact one _ _ cs' _ hcl (fun j hj => hat j hj) ht'
    rcases Nat.eq_zero_or_pos len with rfl | hpos
    · exact ⟨some a, 0, cap, [], hcs, rfl, by omega, fun h => absurd h (by omega)⟩
    · obtain ⟨b, off, spot⟩ := a
      have hspot : spot = none := by
        have := (each 0 hpos).1
        simpa [Addr.add] using this
      subst hspot
      let l : List α := (List.range len).attach.map fun i => (each i.1 (List.mem_range.1 i.2)).2.choose
      have hll : l.length = len := by simp [l]
      refine ⟨_, len, cap, l, hcs, hll, by omega, fun _ => ⟨b, off, rfl, fun i x hx => ?_⟩⟩
      have hil : i < len := by have := (List.getElem?_eq_some_iff.1 hx).1; omega
      have hs := (each i hil).2.choose_spec
      have key : ∀ (A : Addr) (z : α), A = ⟨b, off + i * sz, none⟩ → At A.block A.off z → At b (off + i * sz) z := by
        rintro _ _ rfl h
        exact h
      have hx' : x = (each i hil).2.choose := by
        obtain ⟨hi2, rfl⟩ := List.getElem?_eq_some_iff.1 hx
        simp [l]
      rw [hx']
      exact key _ _ (add_none' b off (i * sz)) hs

/-- An argument that is a struct whose fields take one cell each: the cell of each field reads as the field's type says. -/
theorem open_fields {H : Type} {enc : TypeId × Value → H} {P : Program} {w : World} {base b0 n0 : Nat} {spare : Nat → Bool} {held : Bool} {rc : Reach} {t : TypeId} {fs : Array Field} {v : Value} {d : DataW H} {p : List MemPlace}
    (hs : P.underlying t = some (.struct fs)) (hone : Go.Deep.oneCellFields P fs = true) (hC : P.cellsOf t = n0) (hn : fs.size = n0) (hv : Value.okWide P w rc b0 t v) (h : DataW.Trod enc P w base spare held t v d p) :
    ∃ (cs : List Value) (n : Nat), v = .agg cs.toArray ∧ cs.length = n0 ∧ ∀ (j : Nat) (f : Field), fs[j]? = some f → ∃ c y, cs[j]? = some c ∧ DataW.trod enc P w base spare held n f.type [c] = some y := by
  obtain ⟨⟨cs⟩, rfl, hsz⟩ := okWide_struct hs hv
  obtain ⟨fuel, hf⟩ := h
  obtain ⟨xs, n, _, _, _, hlen, hg⟩ := DataW.trod_struct hs hf
  have hcl : cs.length = n0 := hsz.trans hC
  refine ⟨cs, n, rfl, hcl, fun j f hj => ?_⟩
  have hjl : j < fs.size := (Array.getElem?_eq_some_iff.1 hj).1
  obtain ⟨o, k⟩ := Go.Deep.hone_of hone j f hj
  have h1 := hg j f hj
  rw [o, k] at h1
  have e : ((Value.agg cs.toArray).cells.toList.drop j).take 1 = [cs[j]'(by omega)] := by
    simp only [Value.cells, List.toList_toArray]
    rw [List.drop_eq_getElem_cons (by omega)]
    rfl
  rw [e] at h1
  exact ⟨_, _, List.getElem?_eq_getElem (by omega), h1.trans (List.getElem?_eq_getElem (by omega))⟩
end Go.Proofs.YtbohefollbmhkaaGreatDoor

/-
  Small facts on rows of cells that a call owns, and on lists to which one element is added.
-/
namespace Go.Proofs.YtbohefollbmhkaaGreatDoor
open Go.RowKit

theorem ownsRow_base {w : World} {base b : Nat} {e : TypeId} {size : Nat} {v : Value} {n : Nat} {xs : List Value} (h : w.ownsRow base e size v n xs) (hb : b ≤ base) : w.ownsRow b e size v n xs := by
  refine ⟨h.1, ?_⟩
  rcases h.2 with h | ⟨g, cap, cur, h1, h2, h3⟩
  · exact .inl h
  · exact .inr ⟨g, cap, cur, h1, by omega, h3⟩
theorem snoc_cases {α : Type} {l : List α} {a x : α} {i : Nat} (h : (l ++ [a])[i]? = some x) : (i < l.length ∧ l[i]? = some x) ∨ (i = l.length ∧ x = a) := by
  rcases Nat.lt_or_ge i l.length with hi | hi
  · rw [List.getElem?_append_left hi] at h
    exact .inl ⟨hi, h⟩
  · rw [List.getElem?_append_right hi] at h
    match e : i - l.length, h with
    | 0, h =>
      simp at h
      exact .inr ⟨by omega, h.symm⟩
    | n + 1, h => simp at h

end Go.Proofs.YtbohefollbmhkaaGreatDoor

/-
  Marking the cells of slices of integers that the call owns with k, k+1, .., and finding the marks again.
-/
namespace Go.Proofs.YtbohefollbmhkaaGreatDoor
open Go.RowKit

theorem marks1_step (k0 : Int) (xs : List Value) (t n : Nat) (hl : xs.length = n * 1) (ht : t < n) :
    (marks k0 t ++ xs.drop t).set t (.int .i64 (k0 + t)) = marks k0 (t + 1) ++ xs.drop (t + 1) := by
  apply List.ext_getElem?
  intro j
  rw [List.getElem?_set]
  simp only [List.length_append, marks_length, List.length_drop]
  by_cases h1 : t = j
  · subst h1
    rw [if_pos rfl, if_pos (by omega), List.getElem?_append_left (by rw [marks_length]; omega), marks_at _ _ _ (by omega)]
  · rw [if_neg h1]
    by_cases h3 : j < t
    · rw [List.getElem?_append_left (by rw [marks_length]; omega), List.getElem?_append_left (by rw [marks_length]; omega), marks_at _ _ _ h3, marks_at _ _ _ (by omega)]
    · rw [List.getElem?_append_right (by rw [marks_length]; omega), List.getElem?_append_right (by rw [marks_length]; omega), marks_length, marks_length, List.getElem?_drop, List.getElem?_drop]
      congr 1
      omega

theorem OwnI.block' {w : World} {base : Nat} {v : Value} {l : List Int} (h : OwnI w base v l) (g : Nat) (hg : w.heap.size ≤ g) : v.ownBlock ≠ some g := fun e => by
  have := (World.ownsRow.lt h g e).2
  omega

theorem apart_ne {x y : Value} (h : ∀ g, x.ownBlock = some g → y.ownBlock ≠ some g) : y.ownBlock = none ∨ y.ownBlock ≠ x.ownBlock := by
  cases hy : y.ownBlock
  · exact .inl rfl
  · rename_i g
    exact .inr fun e => h g e.symm hy
theorem apart_sym {x y : Value} (h : ∀ g, x.ownBlock = some g → y.ownBlock ≠ some g) : ∀ g, y.ownBlock = some g → x.ownBlock ≠ some g := fun g hy hx => h g hx hy

end Go.Proofs.YtbohefollbmhkaaGreatDoor

/-
  What the laws' sizes say: a negative number, or what is left and that all is small.
-/
namespace Go.Proofs.YtbohefollbmhkaaGreatDoor
open Go.RowKit

/-- A negative number, or what is left and P. -/
def SzPost (P : Prop) (w : World) (e : Ending) (w' : World) : Prop := ∃ r : Int, e = .returned (.int .i64 r) ∧ r ≤ 1048576 ∧ -1 ≤ r ∧ (0 ≤ r → P) ∧ Kp w w'

end Go.Proofs.YtbohefollbmhkaaGreatDoor
