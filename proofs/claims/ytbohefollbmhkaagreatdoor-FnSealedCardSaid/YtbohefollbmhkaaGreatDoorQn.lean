/-
  Texts of this seat in one module: Bld, Txt, Dig, Spl, Spt, NuL.
-/
import Derived.Test.YtbohefollbmhkaaGreatDoorShelf
import Derived.Laws.BytesArg
import Derived.Lib.ItoaNum
import Derived.Lib.SplitLaws
import Derived.Lib.Join
import Derived.Lib.IndexBytes
import Derived.Maps.AppendAt
import Derived.Test.YtbohefollbmhkaaGreatDoorQa
import Derived.Test.YtbohefollbmhkaaGreatDoorQb
import Derived.Test.YtbohefollbmhkaaGreatDoorQe
import Derived.Test.YtbohefollbmhkaaGreatDoorQf

/-
  strings.Builder in a seat whose cut leaves copyCheck's panic out: copyCheck and WriteString, over the library's own words for a builder.
-/
namespace Go.Proofs.YtbohefollbmhkaaGreatDoor
open Go.RowKit Go.Shelf

set_option maxRecDepth 100000 in
theorem copyCheck_used (b : Nat) (w : World) (h0 : w.cell? ⟨b, 0, none⟩ = some (.pointer (some ⟨b, 0, none⟩))) :
    Calls Tryz.prog 73 #[.pointer (some ⟨b, 0, none⟩)] w fun e w' => e = .returned (.tuple #[]) ∧ w' = w := by
  obtain ⟨j, hj, _⟩ := Option.map_eq_some_iff.1 Tryz.Builder_Extra_169.sizeBuilder
  go_enter Tryz.func73, Tryz.ntmps73
  go_wp2
  rw [Lib.run_neq_ptr_same w _ Tryz.underlying94 hj]
  go_wp2
  go_end0
  exact ⟨rfl, rfl⟩

set_option maxHeartbeats 1000000 in
set_option maxRecDepth 100000 in
theorem copyCheck_fresh (b : Nat) (w : World) (h0 : w.cell? ⟨b, 0, none⟩ = some (.pointer none)) (hsh : w.shape? b = some (96, 2)) (hfz : w.frozen? ⟨b, 0, none⟩ = false) :
    Calls Tryz.prog 73 #[.pointer (some ⟨b, 0, none⟩)] w fun e w' => e = .returned (.tuple #[]) ∧ w' = w.setCell ⟨b, 0, none⟩ (.pointer (some ⟨b, 0, none⟩)) := by
  obtain ⟨j, hj, hjs⟩ := Option.map_eq_some_iff.1 Tryz.Builder_Extra_169.sizeBuilder
  go_enter Tryz.func73, Tryz.ntmps73
  go_wp2
  rw [Lib.run_to_unsafe w ⟨b, 0, none⟩ Tryz.underlying94 Tryz.underlying118 hj (by rw [hjs]; decide) hsh (Nat.zero_lt_succ 1)]
  simp only [Result.andThen]
  rw [Oper.upon_value]
  go_wp2
  rw [run_callFunc_extern Tryz.func82 (by kernel_rfl) (by kernel_rfl) (by kernel_rfl) (e := Extern.AbiNoEscape.same) (by kernel_rfl)]
  rw [Lib.run_noEscape]
  simp only [Result.andThen]
  rw [Oper.upon_value]
  go_wp2
  rw [Lib.run_from_unsafe w ⟨b, 0, none⟩ Tryz.underlying118 Tryz.underlying94 hj hsh Tryz.Builder_Extra_169.liesBuilder]
  simp only [Result.andThen]
  rw [Oper.upon_value]
  go_wp2
  go_end0
  exact ⟨rfl, rfl⟩

theorem copyCheck_any (B b : Nat) (bs : List Value) (w : World) (h : Lib.IsBuilder 96 5 B b bs w) :
    Calls Tryz.prog 73 #[.pointer (some ⟨b, 0, none⟩)] w fun e w' => e = .returned (.tuple #[]) ∧ Lib.BuilderAt 96 5 B b (.pointer (some ⟨b, 0, none⟩)) bs w' ∧ Below B w w' := by
  rcases h with h | h
  · refine (copyCheck_fresh b w h.cell0 h.shape h.frozen0).mono ?_
    rintro e w' ⟨rfl, rfl⟩
    exact ⟨rfl, h.used _, (Below.refl B w).setCell (p := ⟨b, 0, none⟩) h.1 _⟩
  · refine (copyCheck_used b w h.cell0).mono ?_
    rintro e w' ⟨rfl, rfl⟩
    exact ⟨rfl, h, Below.refl B _⟩

set_option maxHeartbeats 2000000 in
set_option maxRecDepth 100000 in
/-- A text written behind what a builder holds. -/
theorem writeString_any (B b : Nat) (bs : List Value) (s : ByteArray) (w : World) (h : Lib.IsBuilder 96 5 B b bs w) (hlen : bs.length + s.size ≤ 140737488355328) (hBw : B ≤ w.heap.size) :
    Calls Tryz.prog 65 #[.pointer (some ⟨b, 0, none⟩), .string s] w fun e w' => (∃ r, e = .returned r) ∧ Lib.BuilderAt 96 5 B b (.pointer (some ⟨b, 0, none⟩)) (bs ++ Lib.strCells s) w' ∧ Below B w w' := by
  obtain ⟨i0, hi, hz⟩ := Option.map_eq_some_iff.1 Tryz.Builder_Extra_169.infoByte
  have hz0 : i0.zero = some (.int .u8 0) := congrArg (·.1) hz
  have hz1 : i0.size = 1 := congrArg (·.2.1) hz
  have hz2 : i0.bytes = 1 := congrArg (·.2.2) hz
  go_enter Tryz.func65, Tryz.ntmps65
  go_wp2_with fail
  refine (copyCheck_any B b bs _ h).mono ?_
  rintro e w1 ⟨rfl, h1, hb1⟩
  obtain ⟨hB, v, hbk, hown, hne⟩ := h1
  have c0 : w1.cell? ⟨b, 0, none⟩ = some (.pointer (some ⟨b, 0, none⟩)) := by rw [Lib.cell_of_heap hbk]; rfl
  have c1 : w1.cell? ⟨b, 1, none⟩ = some v := by rw [Lib.cell_of_heap hbk]; rfl
  go_wp2_with (at_builtin; refine Lib.wpList_append_own_string _ rfl _ _ 22 9 rfl B 5 i0 Tryz.underlying22 Tryz.underlying9 hi hz0 hz1 hz2 _ _ _ rfl hown s rfl ?c3 ?c4 ?c5 ?_)
  case c3 => unfold maxLen; omega
  case c4 => omega
  case c5 => have := hb1.size; omega
  intro v' w2 hown' hgrow _
  have hlt : b < w1.heap.size := by
    rcases Nat.lt_or_ge b w1.heap.size with h' | h'
    · exact h'
    · simp [Array.getElem?_eq_none h'] at hbk
  have hb2 : w2.heap[b]? = some (.cells #[.pointer (some ⟨b, 0, none⟩), v] 96 (0, 0)) := by
    rw [hgrow.block b hlt (fun e => hne e.symm)]
    exact hbk
  have d0 : w2.cell? ⟨b, 0, none⟩ = some (.pointer (some ⟨b, 0, none⟩)) := by rw [Lib.cell_of_heap hb2]; rfl
  have d1 : w2.cell? ⟨b, 1, none⟩ = some v := by rw [Lib.cell_of_heap hb2]; rfl
  have f1 : w2.frozen? ⟨b, 1, none⟩ = false := Lib.frozen_of_heap hb2 1
  obtain ⟨ao, n', cap, rfl⟩ : ∃ ao n' cap, v' = .slice ao n' cap := by
    rcases hown'.2 with ⟨hv, _⟩ | ⟨g, cap, cur, hv, _⟩
    · exact ⟨_, _, _, hv⟩
    · exact ⟨_, _, _, hv⟩
  go_wp2
  go_ret2
  refine ⟨⟨_, rfl⟩, ?_, ?_⟩
  · exact Lib.BuilderAt.put (T := 96) (e := 5) hB hb2 (bs' := bs ++ Lib.strCells s) (by simpa [Lib.strCells_length] using hown') Tryz.Builder_Extra_169.neB5
  · exact (hb1.grown hgrow (by have := hb1.size; omega) (fun k hk => (hown.lt k hk).1)).setCell (p := ⟨b, 1, none⟩) hB _
end Go.Proofs.YtbohefollbmhkaaGreatDoor

/-
  A number as text, in the reference: 'l1Num' turns a number of 0 or more into its decimal digits, and only new blocks are written.
-/
namespace Go.Proofs.YtbohefollbmhkaaGreatDoor
open Go.RowKit

/-- A number's text. -/
def decT (n : Nat) : ByteArray := ⟨(Lib.decDigits n).toArray⟩

theorem strOf_one (n : Nat) : strOfNums [48 + (n : Int)] = ⟨[UInt8.ofNat (48 + n)].toArray⟩ := by
  have e : (48 + (n : Int)).toNat = 48 + n := by omega
  unfold strOfNums
  simp [e]

theorem decT_lt {n : Nat} (h : n < 10) : decT n = strOfNums [48 + (n : Int)] := by
  rw [strOf_one]
  unfold decT
  rw [Lib.decDigits, dif_pos h]

theorem decT_ge {n : Nat} (h : ¬ n < 10) : decT n = decT (n / 10) ++ strOfNums [48 + ((n % 10 : Nat) : Int)] := by
  rw [strOf_one]
  unfold decT
  rw [Lib.decDigits, dif_neg h]
  apply ByteArray.ext
  simp [ByteArray.data_append]

theorem decT_size (n : Nat) : (decT n).size = Lib.nDigits n := by
  unfold decT ByteArray.size
  simp [Lib.decDigits_eq]

theorem nDigits_le (n : Nat) : Lib.nDigits n ≤ n + 1 := by
  induction n using Nat.strongRecOn with
  | _ n ih =>
    by_cases h : n < 10
    · rw [Lib.nDigits_small h]; omega
    · rw [Lib.nDigits_big h]
      have := ih (n / 10) (by omega)
      omega

theorem decT_len (n : Nat) : (decT n).size ≤ n + 1 := by rw [decT_size]; exact nDigits_le n

/-- One byte, as a list in memory, turned into a text. -/
theorem conv_one (r : Nat) (W : World) (b : Nat) (h : W.cell? ⟨b, 0, none⟩ = some (.int .u8 (48 + (r : Int)))) :
    (convert 22 9 (.slice (some ⟨b, 0, none⟩) 1 1)).run Tryz.prog W = .ok (.string (strOfNums [48 + (r : Int)])) W :=
  run_convert_bytes_arg (P := Tryz.prog) W 22 5 Tryz.underlying22 Tryz.underlying5 b 0 1 1 [48 + (r : Int)] rfl (fun i hi => by
    obtain rfl : i = 0 := by omega
    simpa using h) 9 Tryz.underlying9

end Go.Proofs.YtbohefollbmhkaaGreatDoor

/-
  Texts as lists of bytes; a line of digits as the program writes it.
-/
namespace Go.Proofs.YtbohefollbmhkaaGreatDoor
open Go.RowKit

/-- A list of bytes as a text. -/
def txt (l : List UInt8) : ByteArray := ⟨l.toArray⟩
theorem txt_app (a b : List UInt8) : txt a ++ txt b = txt (a ++ b) := by
  apply ByteArray.ext
  simp [txt, ByteArray.data_append]
theorem txt_size (l : List UInt8) : (txt l).size = l.length := by simp [txt, ByteArray.size]
theorem decT_txt (n : Nat) : decT n = txt (Lib.decDigits n) := rfl

/-- The digits of numbers, one number behind the other. -/
def digs (l : List Int) : List UInt8 := l.flatMap fun n => Lib.decDigits n.toNat
theorem digs_nil : digs [] = [] := rfl
theorem digs_more {l : List Int} {q : Nat} {x : Int} (h : l[q]? = some x) : digs (l.take (q + 1)) = digs (l.take q) ++ Lib.decDigits x.toNat := by
  rw [List.take_add_one, h]
  simp [digs]
theorem dec_len {n : Nat} (h : n < 100) : (Lib.decDigits n).length ≤ 2 := by
  have e : (Lib.decDigits n).length = Lib.nDigits n := by simp [Lib.decDigits_eq]
  rw [e]
  by_cases h0 : n < 10
  · rw [Lib.nDigits_small h0]; omega
  · rw [Lib.nDigits_big h0, Lib.nDigits_small (by omega)]; omega
theorem digs_len : ∀ (l : List Int), (∀ x ∈ l, 0 ≤ x ∧ x < 100) → (digs l).length ≤ 2 * l.length
  | [], _ => by simp [digs]
  | x :: l, h => by
    have h1 := digs_len l (fun y hy => h y (List.mem_cons_of_mem _ hy))
    have h2 := h x (List.mem_cons_self ..)
    have h3 := dec_len (n := x.toNat) (by omega)
    have e : digs (x :: l) = Lib.decDigits x.toNat ++ digs l := by simp [digs]
    rw [e, List.length_append, List.length_cons]
    omega

end Go.Proofs.YtbohefollbmhkaaGreatDoor

/-
  Texts of words: words joined by a byte that is in none of them are split into the same words; a form filled with a name and numbers.
-/
namespace Go.Proofs.YtbohefollbmhkaaGreatDoor
open Go.RowKit

theorem index_pre (c : UInt8) : ∀ (x r : List UInt8), c ∉ x → Lib.index (x ++ c :: r) [c] = x.length
  | [], r, _ => by rw [List.nil_append, Lib.index]; simp [List.isPrefixOf]
  | b :: x, r, h => by
    have hb : b ≠ c := fun e => h (by simp [e])
    have ih := index_pre c x r (fun hc => h (List.mem_cons_of_mem _ hc))
    have hp : ([c] : List UInt8).isPrefixOf (b :: (x ++ c :: r)) = false := by simp [List.isPrefixOf, Ne.symm hb]
    have hm : ¬ ((x.length : Int) == -1) = true := fun e => by have := beq_iff_eq.1 e; omega
    rw [List.cons_append, Lib.index, hp, ih, if_neg (by decide), if_neg hm, List.length_cons]
    omega

theorem join_two (x y : List UInt8) (r : List (List UInt8)) (c : UInt8) : Lib.join (x :: y :: r) [c] = x ++ c :: Lib.join (y :: r) [c] := by
  rw [Lib.join_cons, Lib.join_cons]
  simp [Lib.joinTail]

theorem splitK_join (c : UInt8) : ∀ (r : List (List UInt8)) (x : List UInt8), (∀ y ∈ x :: r, c ∉ y) → Lib.splitK [c] 0 r.length (Lib.join (x :: r) [c]) = x :: r
  | [], x, _ => by rw [Lib.join_one]; rfl
  | y :: r, x, h => by
    have i := index_pre c x (Lib.join (y :: r) [c]) (h x (List.mem_cons_self ..))
    have ih := splitK_join c r y (fun z hz => h z (List.mem_cons_of_mem _ hz))
    have hm : ¬ ((x.length : Int) == -1) = true := fun e => by have := beq_iff_eq.1 e; omega
    rw [List.length_cons, Lib.splitK, join_two, i, if_neg hm]
    have e1 : (x ++ c :: Lib.join (y :: r) [c]).take (((x.length : Int).toNat) + 0) = x := by simp
    have e2 : (x ++ c :: Lib.join (y :: r) [c]).drop (((x.length : Int).toNat) + ([c] : List UInt8).length) = Lib.join (y :: r) [c] := by
      have e3 : x ++ c :: Lib.join (y :: r) [c] = (x ++ [c]) ++ Lib.join (y :: r) [c] := by simp
      rw [e3]
      exact List.drop_left' (by simp)
    rw [e1, e2, ih]

theorem count_join (c : UInt8) : ∀ (r : List (List UInt8)) (x : List UInt8), (∀ y ∈ x :: r, c ∉ y) → (Lib.join (x :: r) [c]).count c = r.length
  | [], x, h => by rw [Lib.join_one]; exact List.count_eq_zero.2 (h x (List.mem_cons_self ..))
  | y :: r, x, h => by
    have ih := count_join c r y (fun z hz => h z (List.mem_cons_of_mem _ hz))
    have h0 : x.count c = 0 := List.count_eq_zero.2 (h x (List.mem_cons_self ..))
    rw [join_two, List.count_append, h0, List.count_cons_self, ih, List.length_cons]
    omega

theorem splitB_join (c : UInt8) (s : ByteArray) (x : List UInt8) (r : List (List UInt8)) (e : s.data.toList = Lib.join (x :: r) [c]) (h : ∀ y ∈ x :: r, c ∉ y) :
    Lib.countB s ⟨#[c]⟩ = r.length ∧ (Lib.splitB ⟨#[c]⟩ 0 (Lib.countB s ⟨#[c]⟩) s).map (·.data.toList) = x :: r := by
  have e1 : Lib.countB s ⟨#[c]⟩ = r.length := by
    show Lib.count s.data.toList [c] = _
    rw [Lib.count_one, e, count_join c r x h]
  refine ⟨e1, ?_⟩
  rw [e1, Lib.splitB_data, e]
  exact splitK_join c r x h

/-- A form's words filled: NAME with a name, each N with the next number. -/
def fillW : List (List UInt8) → List UInt8 → List Int → List (List UInt8)
  | [], _, _ => []
  | w :: ws, nm, ns =>
    if w = [78, 65, 77, 69] then nm :: fillW ws nm ns
    else if w = [78] then Lib.itoa (ns.headD 0) :: fillW ws nm ns.tail
    else w :: fillW ws nm ns
def usedN (ws : List (List UInt8)) : Nat := ws.count [78]

theorem fillW_snoc (nm : List UInt8) (w : List UInt8) : ∀ (ws : List (List UInt8)) (ns : List Int), fillW (ws ++ [w]) nm ns = fillW ws nm ns ++ fillW [w] nm (ns.drop (usedN ws))
  | [], ns => by simp [fillW, usedN]
  | v :: ws, ns => by
    rw [List.cons_append, fillW, fillW]
    by_cases h1 : v = [78, 65, 77, 69]
    · subst h1
      rw [if_pos rfl, if_pos rfl, fillW_snoc nm w ws ns, List.cons_append]
      simp [usedN]
    · rw [if_neg h1, if_neg h1]
      by_cases h2 : v = [78]
      · subst h2
        rw [if_pos rfl, if_pos rfl, fillW_snoc nm w ws ns.tail, List.cons_append]
        have e : usedN ([78] :: ws) = usedN ws + 1 := by simp [usedN]
        rw [e, ← List.drop_one, List.drop_drop, Nat.add_comm 1]
      · rw [if_neg h2, if_neg h2, fillW_snoc nm w ws ns, List.cons_append]
        have e : usedN (v :: ws) = usedN ws := by simp [usedN, h2]
        rw [e]

theorem fillW_length (nm : List UInt8) : ∀ (ws : List (List UInt8)) (ns : List Int), (fillW ws nm ns).length = ws.length
  | [], _ => rfl
  | v :: ws, ns => by
    rw [fillW]
    split
    · rw [List.length_cons, List.length_cons, fillW_length nm ws]
    · split
      · rw [List.length_cons, List.length_cons, fillW_length nm ws]
      · rw [List.length_cons, List.length_cons, fillW_length nm ws]

theorem usedN_more {ws : List (List UInt8)} {q : Nat} {v : List UInt8} (h : ws[q]? = some v) : usedN (ws.take (q + 1)) = usedN (ws.take q) + if v = [78] then 1 else 0 := by
  rw [List.take_add_one, h]
  simp only [usedN, Option.toList_some, List.count_append, List.count_cons, List.count_nil]
  by_cases e : v = [78]
  · simp [e]
  · simp [e]

theorem fillW_more {ws : List (List UInt8)} {q : Nat} {v : List UInt8} (h : ws[q]? = some v) (nm : List UInt8) (ns : List Int) : fillW (ws.take (q + 1)) nm ns = fillW (ws.take q) nm ns ++ fillW [v] nm (ns.drop (usedN (ws.take q))) := by
  rw [List.take_add_one, h]
  exact fillW_snoc nm v _ ns

theorem usedN_le (ws : List (List UInt8)) (q : Nat) : usedN (ws.take q) ≤ usedN ws := List.Sublist.count_le _ (List.take_sublist ..)
theorem usedN_lt {ws : List (List UInt8)} {q : Nat} (h : ws[q]? = some [78]) : usedN (ws.take q) < usedN ws := by
  have h1 := usedN_more h
  have h2 := usedN_le ws (q + 1)
  rw [if_pos rfl] at h1
  omega

/-- The length of joined words, where each has at most k bytes. -/
theorem join_bound (c : UInt8) (k : Nat) : ∀ (ws : List (List UInt8)), (∀ w ∈ ws, w.length ≤ k) → (Lib.join ws [c]).length ≤ (k + 1) * ws.length
  | [], _ => by simp [Lib.join]
  | x :: r, h => by
    have h1 : Lib.lens (x :: r) ≤ k * (x :: r).length := by
      have : ∀ (l : List (List UInt8)), (∀ w ∈ l, w.length ≤ k) → Lib.lens l ≤ k * l.length := by
        intro l
        induction l with
        | nil => intro _; simp [Lib.lens]
        | cons y l ih =>
          intro hl
          have a := ih (fun w hw => hl w (List.mem_cons_of_mem _ hw))
          have b := hl y (List.mem_cons_self ..)
          have e : Lib.lens (y :: l) = y.length + Lib.lens l := by simp [Lib.lens]
          rw [e, List.length_cons, Nat.mul_add, Nat.mul_one]
          omega
      exact this _ h
    rw [Lib.join_length, Nat.add_mul, Nat.one_mul]
    simp only [List.length_cons, List.length_nil] at h1 ⊢
    omega

end Go.Proofs.YtbohefollbmhkaaGreatDoor

/-
  strings.Split at a separator of one byte: the pieces, in a new block, and nothing else.
-/
namespace Go.Proofs.YtbohefollbmhkaaGreatDoor
open Go.RowKit Go.Shelf

theorem txt_of (s : ByteArray) : txt s.data.toList = s := by
  apply ByteArray.ext
  simp [txt]

theorem infoStr9 : (Tryz.prog.info? 9).map (fun i => (i.zero, i.size, i.bytes)) = some (some (.string ByteArray.empty), 1, 16) := by kernel_rfl

theorem countB_one (s : ByteArray) (c : UInt8) : Lib.countB s ⟨#[c]⟩ = s.data.toList.count c := by
  show Lib.count s.data.toList [c] = _
  exact Lib.count_one c _

set_option maxRecDepth 100000 in
theorem split_one (s : ByteArray) (c : UInt8) (x : List UInt8) (r : List (List UInt8)) (w : World) (hs : s.size < 4294967281) (e : s.data.toList = Lib.join (x :: r) [c]) (h : ∀ y ∈ x :: r, c ∉ y) :
    Calls Tryz.prog 67 #[.string s, .string ⟨#[c]⟩] w fun e w' =>
      e = .returned (.slice (some ⟨w.heap.size, 0, none⟩) (r.length + 1) (r.length + 1)) ∧ w' = w.alloc (.cells ((x :: r).map fun y => Value.string (txt y)).toArray 9) := by
  obtain ⟨h1, h2⟩ := splitB_join c s x r e h
  have hle : r.length ≤ s.size := by
    rw [← h1, countB_one]
    exact List.count_le_length
  have g := Any.strings_genSplit_core Tryz.lays221 infoStr9 s ⟨#[c]⟩ 0 (-1) (r.length + 1) w hs (Nat.le_refl 1) (Nat.zero_le _)
    (fun x _ _ => (Tryz.strings_Index_one x c _).mono fun e w' ⟨a, b⟩ => ⟨by rw [a, ← Lib.index_one], b⟩)
    ((Tryz.strings_Count_one s c w).mono fun e w' ⟨a, b⟩ => ⟨by rw [a, countB_one]; rfl, b⟩) (by decide) (by decide) (by rw [if_pos (by decide), h1]; omega)
  have e3 : Lib.splitB ⟨#[c]⟩ 0 (r.length + 1 - 1) s = (x :: r).map txt := by
    rw [h1] at h2
    rw [Nat.add_sub_cancel, ← h2, List.map_map]
    refine (List.map_id'' ?_ _).symm
    intro y
    exact txt_of y
  rw [e3] at g
  have e4 : ((x :: r).map txt).length = r.length + 1 := by simp
  have e5 : Lib.cellsOf ((x :: r).map txt) (r.length + 1) = ((x :: r).map fun y => Value.string (txt y)).toArray := by
    rw [← e4, Lib.cellsOf_full, List.map_map]
    rfl
  rw [e4, e5] at g
  have G := Lib.hid g
  clear g e3 e4 e5 h1 h2 e h hle
  go_enter Tryz.func67, Tryz.ntmps67
  go_wp2_with fail
  refine G.out.mono ?_
  rintro e w' ⟨rfl, hw⟩
  have HW := Lib.hid hw
  clear hw
  go_wp2_with fail
  go_ret
  exact ⟨rfl, HW.out⟩

end Go.Proofs.YtbohefollbmhkaaGreatDoor

/-
  The program's line of a name and numbers.
-/
namespace Go.Proofs.YtbohefollbmhkaaGreatDoor
open Go.RowKit

/-- A name and numbers, with a blank before each number. -/
def numsT (l : List Int) : List UInt8 := l.flatMap fun n => 32 :: Lib.itoa n
theorem numsT_join (nm : List UInt8) (l : List Int) : Lib.join (nm :: l.map Lib.itoa) [32] = nm ++ numsT l := by
  rw [Lib.join_cons]
  congr 1
  induction l with
  | nil => rfl
  | cons x l ih =>
    simp only [Lib.joinTail, numsT, List.map_cons, List.flatten_cons, List.flatMap_cons] at ih ⊢
    rw [ih]
    simp
theorem infoStrN : (Tryz.prog.info? 9).map (fun i => (i.zero, i.size, i.bytes)) = some (some (.string ⟨#[]⟩), 1, 16) := by kernel_rfl
theorem one_str (w : World) (x : Value) (t : TypeId) : ∀ (j : Nat) u, [x][j]? = some u → (w.alloc (.cells #[x] t)).cell? ((⟨w.heap.size, 0, none⟩ : Addr).add j) = some u := by
  intro j u hj
  match j, hj with
  | 0, hj => simp at hj; subst hj; simp [Addr.add]
theorem row_shapeS {w : World} {base n : Nat} {e : TypeId} {v : Value} {xs : List Value} (h : w.ownsRow base e 1 v n xs) (h0 : 0 < n) :
    ∃ g cap, v = .slice (some ⟨g, 0, none⟩) n cap ∧ base ≤ g ∧ g < w.heap.size ∧ n ≤ cap ∧ cap ≤ 9223372036854775807 := by
  have hl := World.ownsRow.lt h
  rcases h.2 with ⟨_, h1⟩ | ⟨g, cap, cur, e1, h2, _, h3, h4, _⟩
  · omega
  · exact ⟨g, cap, e1, h2, (hl g (by rw [e1]; rfl)).2, h3, by unfold maxLen at h4; omega⟩

end Go.Proofs.YtbohefollbmhkaaGreatDoor
