/-
  DERIVED: THE SHELF's CONTRACTS AT THIS DUMP, IN PLAIN WORDS (tools/lay-plain.mjs out of 'TrydShelf.lean', which tools/lay-shelf.mjs wrote): THE SAME DECLARATIONS UNDER THE SAME NAMES: 'import', 'namespace', 'open', 'def', 'theorem' AND NOTHING ELSE: no command of the shelf's: FOR A HAND-IN. Each laying: the table of numbers ('.._ren') and one theorem, a field a fact of the dump's own or the kernel's comparison; each contract: ONE APPLICATION.
-/
import Derived.Shelf.Sort.Plain
import Derived.Shelf.Slices.In.SortNone
import Derived.Test.YtcdfbcmfpeceeaaDoorProg
namespace Go.Proofs
open Go.Shelf
def Tryd.lays189_ren : Go.Shelf.Ren := ⟨fun | 189 => 117 | 125 => 143 | 257 => 142 | 128 => 167 | 129 => 168 | 294 => 158 | 295 => 159 | 296 => 160 | 297 => 161 | 298 => 162 | 299 => 163 | 216 => 164 | 300 => 165 | 301 => 166 | 328 => 184 | 329 => 185 | 330 => 186 | 331 => 187 | 332 => 188 | 215 => 189 | 343 => 201 | n => n, fun | 28 => 40 | 3 => 3 | 46 => 142 | 0 => 0 | 51 => 170 | 53 => 75 | 4 => 4 | 183 => 165 | 182 => 164 | 131 => 32 | 5 => 5 | 9 => 9 | 218 => 187 | 222 => 191 | 228 => 205 | 229 => 206 | n => n, fun | n => n⟩
theorem Tryd.lays189 : Go.Proofs.Lays.n189 Tryd.prog Tryd.lays189_ren := {
  mixed := by kernel_rfl
  f125 := Tryd.func143.trans (congrArg some (by kernel_rfl))
  f128 := Tryd.func167.trans (congrArg some (by kernel_rfl))
  f129 := Tryd.func168.trans (congrArg some (by kernel_rfl))
  f189 := Tryd.func117.trans (congrArg some (by kernel_rfl))
  f215 := Tryd.func189.trans (congrArg some (by kernel_rfl))
  f216 := Tryd.func164.trans (congrArg some (by kernel_rfl))
  f257 := Tryd.func142.trans (congrArg some (by kernel_rfl))
  f294 := Tryd.func158.trans (congrArg some (by kernel_rfl))
  f295 := Tryd.func159.trans (congrArg some (by kernel_rfl))
  f296 := Tryd.func160.trans (congrArg some (by kernel_rfl))
  f297 := Tryd.func161.trans (congrArg some (by kernel_rfl))
  f298 := Tryd.func162.trans (congrArg some (by kernel_rfl))
  f299 := Tryd.func163.trans (congrArg some (by kernel_rfl))
  f300 := Tryd.func165.trans (congrArg some (by kernel_rfl))
  f301 := Tryd.func166.trans (congrArg some (by kernel_rfl))
  f328 := Tryd.func184.trans (congrArg some (by kernel_rfl))
  f329 := Tryd.func185.trans (congrArg some (by kernel_rfl))
  f330 := Tryd.func186.trans (congrArg some (by kernel_rfl))
  f331 := Tryd.func187.trans (congrArg some (by kernel_rfl))
  f332 := Tryd.func188.trans (congrArg some (by kernel_rfl))
  f343 := Tryd.func201.trans (congrArg some (by kernel_rfl))
  t0 := Tryd.underlying0
  a0 := Tryd.isAgg0
  z0 := Tryd.sizeOf0
  v0 := Tryd.zeroValue0
  t3 := Tryd.underlying3
  a3 := Tryd.isAgg3
  z3 := Tryd.sizeOf3
  v3 := Tryd.zeroValue3
  t4 := Tryd.underlying4
  a4 := Tryd.isAgg4
  z4 := Tryd.sizeOf4
  v4 := Tryd.zeroValue4
  t5 := Tryd.underlying5
  a5 := Tryd.isAgg5
  z5 := Tryd.sizeOf5
  v5 := Tryd.zeroValue5
  t9 := Tryd.underlying9
  a9 := Tryd.isAgg9
  z9 := Tryd.sizeOf9
  v9 := Tryd.zeroValue9
  t28 := Tryd.underlying40
  a28 := Tryd.isAgg40
  z28 := Tryd.sizeOf40
  v28 := Tryd.zeroValue40
  t46 := Tryd.underlying142
  a46 := Tryd.isAgg142
  z46 := Tryd.sizeOf142
  v46 := Tryd.zeroValue142
  t51 := Tryd.underlying170
  a51 := Tryd.isAgg170
  z51 := Tryd.sizeOf170
  v51 := Tryd.zeroValue170
  t53 := Tryd.underlying75
  a53 := Tryd.isAgg75
  z53 := Tryd.sizeOf75
  v53 := Tryd.zeroValue75
  t131 := Tryd.underlying32
  a131 := Tryd.isAgg32
  z131 := Tryd.sizeOf32
  v131 := Tryd.zeroValue32
  t182 := Tryd.underlying164
  a182 := Tryd.isAgg164
  z182 := Tryd.sizeOf164
  v182 := Tryd.zeroValue164
  t183 := Tryd.underlying165
  a183 := Tryd.isAgg165
  z183 := Tryd.sizeOf165
  v183 := Tryd.zeroValue165
  t218 := Tryd.underlying187
  a218 := Tryd.isAgg187
  z218 := Tryd.sizeOf187
  v218 := Tryd.zeroValue187
  t222 := Tryd.underlying191
  a222 := Tryd.isAgg191
  z222 := Tryd.sizeOf191
  v222 := Tryd.zeroValue191
  t228 := Tryd.underlying205
  a228 := Tryd.isAgg205
  z228 := Tryd.sizeOf205
  v228 := Tryd.zeroValue205
  t229 := Tryd.underlying206
  a229 := Tryd.isAgg206
  z229 := Tryd.sizeOf206
  v229 := Tryd.zeroValue206 }
open Go.Sort Go.RowKit in
theorem Tryd.slices_Sort_int (blk off cap : Nat) (zs : List Int) (w : World) (hH : Holds (Value.int .i64) w blk off zs.toArray) (hblk : blk < w.heap.size) (hsz : zs.length < 4611686018427387904) :
    Calls Tryd.prog 117 #[.slice (some ⟨blk, off, none⟩) zs.length cap] w fun e w' =>
      e = .returned (.tuple #[]) ∧ ∃ n os, w' = grow (putRow (Value.int .i64) (Sort.ahead w n) blk off (zs.mergeSort fun x y => decide (x ≤ y)).toArray) os := Any.slices_Sort_int Tryd.lays189 blk off cap zs w hH hblk hsz
open Go.RowKit Go.Sort in
/-- .. and plain. (LAID: no walk: one application.) -/
theorem Tryd.slices_Sort_int_none (p : Option Addr) (cap : Nat) (w : World) :
    Calls Tryd.prog 117 #[.slice p 0 cap] w fun e w' => e = .returned (.tuple #[]) ∧ w' = w := Any.slices_Sort_int_none Tryd.lays189 p cap w
end Go.Proofs
