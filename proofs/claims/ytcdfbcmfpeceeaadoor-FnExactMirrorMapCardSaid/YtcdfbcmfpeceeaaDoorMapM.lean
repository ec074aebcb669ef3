/-
  Maps as plain numbers and lists: indices, neighbours, edges, valid maps. No program is looked into.
-/
import Derived.Test.YtcdfbcmfpeceeaaDoorDirs
import Derived.Test.YtcdfbcmfpeceeaaDoorSpB
namespace Go.Proofs.YtcdfbcmfpeceeaaDoor
open Go.RowKit

def sideB (n : Int) : Bool := decide (1 ≤ n) && decide (n ≤ 10)
def terrB (n : Int) : Bool := decide (0 ≤ n) && decide (n ≤ 5)
def dirB (d : Int) : Bool := decide (0 ≤ d) && decide (d ≤ 5)
def onI (W H i : Int) : Bool := decide (0 ≤ i) && decide (i < W * H)
def inM (W H q r : Int) : Bool := (decide (0 ≤ q) && decide (q < W)) && (decide (0 ≤ r) && decide (r < H))
def idxM (W q r : Int) : Int := r * W + q
def nbQ (W i d : Int) : Int := i % W + dirQ d
def nbR (W i d : Int) : Int := i / W + dirR d
def nbM (W H i d : Int) : Bool := inM W H (nbQ W i d) (nbR W i d)
def nbB (W H i d : Int) : Bool := onI W H i && (dirB d && nbM W H i d)
def nbI (W i d : Int) : Int := idxM W (nbQ W i d) (nbR W i d)
def edgI (W i d : Int) : Int := if d < 3 then 3 * i + d else 3 * nbI W i d + d - 3
def edgeB (W H e : Int) : Bool := nbB W H (e.tdiv 3) (e.tmod 3)
def riseFrom : Int → List Int → Bool
  | _, [] => true
  | p, x :: l => decide (p < x) && riseFrom x l
def edgesFrom (W H : Int) : Int → List Int → Bool
  | _, [] => true
  | p, x :: l => edgeB W H x && (decide (p < x) && edgesFrom W H x l)
def edgesOk (W H : Int) (l : List Int) : Bool := edgesFrom W H (-1) l
def mapOk (W H : Int) (lt lr ld : List Int) : Bool :=
  sideB W && (sideB H && (decide ((lt.length : Int) = W * H) && (lt.all terrB && (edgesOk W H lr && edgesOk W H ld))))

theorem sideB_true {n : Int} (h : sideB n = true) : 1 ≤ n ∧ n ≤ 10 := by simpa [sideB] using h
theorem onI_true {W H i : Int} (h : onI W H i = true) : 0 ≤ i ∧ i < W * H := by simpa [onI] using h
theorem onI_mk {W H i : Int} (h : 0 ≤ i) (h' : i < W * H) : onI W H i = true := by simp [onI, h, h']
theorem dirB_true {d : Int} (h : dirB d = true) : 0 ≤ d ∧ d ≤ 5 := by simpa [dirB] using h
theorem dirB_mk {d : Int} (h : 0 ≤ d) (h' : d ≤ 5) : dirB d = true := by simp [dirB, h, h']
theorem inM_true {W H q r : Int} (h : inM W H q r = true) : 0 ≤ q ∧ q < W ∧ 0 ≤ r ∧ r < H := by
  simp only [inM, Bool.and_eq_true, decide_eq_true_eq] at h
  exact ⟨h.1.1, h.1.2, h.2.1, h.2.2⟩
theorem inM_mk {W H q r : Int} (a : 0 ≤ q) (b : q < W) (c : 0 ≤ r) (d : r < H) : inM W H q r = true := by simp [inM, a, b, c, d]

theorem area_bd {W H : Int} (a : 1 ≤ W) (b : W ≤ 10) (c : 1 ≤ H) (d : H ≤ 10) : 1 ≤ W * H ∧ W * H ≤ 100 := by
  have h1 : 0 ≤ (W - 1) * (H - 1) := Int.mul_nonneg (by omega) (by omega)
  have h2 : 0 ≤ (10 - W) * (10 - H) := Int.mul_nonneg (by omega) (by omega)
  have h3 : 0 ≤ (10 - W) * (H - 1) := Int.mul_nonneg (by omega) (by omega)
  simp only [Int.sub_mul, Int.mul_sub] at h1 h2 h3
  omega
theorem mul_bd {W r : Int} (a : 1 ≤ W) (b : W ≤ 10) (c : -20 ≤ r) (d : r ≤ 200) : -200 ≤ r * W ∧ r * W ≤ 2000 := by
  have h1 : 0 ≤ (r + 20) * W := Int.mul_nonneg (by omega) (by omega)
  have h2 : 0 ≤ (200 - r) * W := Int.mul_nonneg (by omega) (by omega)
  simp only [Int.sub_mul, Int.add_mul] at h1 h2
  omega
theorem hex_bd {W H i : Int} (a : 1 ≤ W) (b : W ≤ 10) (h0 : 0 ≤ i) (h : i < W * H) : 0 ≤ i % W ∧ i % W < W ∧ 0 ≤ i / W ∧ i / W < H := by
  refine ⟨Int.emod_nonneg _ (by omega), Int.emod_lt_of_pos _ (by omega), Int.ediv_nonneg h0 (by omega), ?_⟩
  exact Int.ediv_lt_of_lt_mul (by omega) (by rw [Int.mul_comm]; exact h)
theorem idx_bd {W H q r : Int} (h : inM W H q r = true) : 0 ≤ idxM W q r ∧ idxM W q r < W * H := by
  obtain ⟨a, b, c, d⟩ := inM_true h
  have h1 : 0 ≤ r * W := Int.mul_nonneg (by omega) (by omega)
  have h2 : 0 ≤ (H - 1 - r) * W := Int.mul_nonneg (by omega) (by omega)
  simp only [Int.sub_mul] at h2
  rw [Int.mul_comm W H]
  unfold idxM
  omega

theorem edgeB_nat {W H e : Int} (h : 0 ≤ e) : edgeB W H e = nbB W H (e / 3) (e % 3) := by
  unfold edgeB
  rw [Int.tdiv_eq_ediv_of_nonneg h, Int.tmod_eq_emod_of_nonneg h]
theorem edgeB_neg {W H e : Int} (h : e < 0) : edgeB W H e = false := by
  unfold edgeB nbB
  by_cases h1 : e.tdiv 3 < 0
  · have : onI W H (e.tdiv 3) = false := by unfold onI; simp; omega
    simp [this]
  · have : dirB (e.tmod 3) = false := by
      unfold dirB
      have := Int.mul_tdiv_add_tmod e 3
      simp
      omega
    simp [this]
theorem edgeB_big {W H e : Int} (h : 3 * (W * H) ≤ e) (h0 : 0 ≤ e) : edgeB W H e = false := by
  rw [edgeB_nat h0]
  have : onI W H (e / 3) = false := by unfold onI; simp; omega
  simp [nbB, this]
theorem edgeB_in {W H e : Int} (h0 : 0 ≤ e) (h : e < 3 * (W * H)) : edgeB W H e = nbM W H (e / 3) (e % 3) := by
  rw [edgeB_nat h0]
  have h1 : onI W H (e / 3) = true := onI_mk (by omega) (by omega)
  have h2 : dirB (e % 3) = true := dirB_mk (by omega) (by omega)
  simp [nbB, h1, h2]
theorem edgesFrom_eq (W H : Int) : ∀ (p : Int) (l : List Int), edgesFrom W H p l = (l.all (edgeB W H) && riseFrom p l)
  | _, [] => rfl
  | p, x :: l => by
    simp only [edgesFrom, riseFrom, List.all_cons, edgesFrom_eq W H x l]
    cases edgeB W H x <;> cases decide (p < x) <;> simp
theorem edgesOk_eq (W H : Int) (l : List Int) : edgesOk W H l = (l.all (edgeB W H) && riseFrom (-1) l) := edgesFrom_eq W H _ _

end Go.Proofs.YtcdfbcmfpeceeaaDoor
