/- Contracts of the library at this program, laid in plain words by the kit's tool. The library's contracts of this seat: see TShelf. strings.Join at this program, of any row of texts. The contracts of the document's Parse and Print. text.Print at 0.375 with two places. strconv.FormatUint to the base 16, at any number. strconv.FormatUint to the base 16, at any number: the loop. The contract of the document's Print. The closed look of every statement of this layer: the document's fixed answers. The contracts of shiftNear, near and Join: the nearest number. The contract of Split. A great whole number rounded by its leading bits: what is behind them counts but as one bit. Sums of floats, by whole numbers; whole numbers as floats. Products of floats, by whole numbers; rounding keeps order. Exact products: whole numbers, and powers of 2. Contracts of the document's digits: trim, Digits, Len, digit. Rows of floats: what came in, and rows of one's own. The contracts of the document's Kind, times, above, long: rates. NaNs, infinities, numbers: math.IsNaN, math.IsInf; comparisons by ranks. The contract of Horner: steps from the right, each rounded. Steps of floats over what may be a NaN. What floats tell fits 64 bits. A number less itself. The contract of ShiftUp. Flows: rows of them that came in, and rows of one's own; the program's (amounts as floats) and the document's (amounts as bits). The contracts of deal's and code's isNumber, and of code's within, isDay, isCurrency. Package deal: terms, and what a field tells of one. Package deal: a field's functions, whatever field it is. Package deal: whether a term's fields may be, where they may. Package code: the kinds of ops, looked up. Package code: an op's kind, and a term's. Two ops, two terms are compared. Package deal: the parts of a term; the stack of loose terms. Package deal: closed words are read: 1 as a whole number, 2030-01-01 as a day. Regions that draw their order and whose last operations write what others read: the reads may still be taken first. The contract of ShiftDown. The contract of the document's 'rounded' at 53 bits. Contracts of the document's Near: made, Zero, far, NearMore, Near. Contracts of the document's Whole, Join, Of and Split. The contracts of AddDigits, SubDigits, CmpDigits. -/
import Derived.Shelf.Strconv.AtoiAll
import Derived.Shelf.LaysC
import Derived.Shelf.Strings.Trim
import Derived.Shelf.Lays
import Derived.Shelf.Strconv.Itoa3
import Derived.Shelf.LaysM
import Derived.Shelf.Strings.OnBuilder
import Derived.Test.YtiiajhomdpfafaaGreatDoorProg
import Derived.Test.YtiiajhomdpfafaaGreatDoorHas
import Derived.Test.YtiiajhomdpfafaaGreatDoorDDig
import Derived.Test.YtiiajhomdpfafaaGreatDoorHap
import Derived.Test.YtiiajhomdpfafaaGreatDoorHaq
import Derived.Lib.ConvBytes
import Derived.Laws.MakeOwn
import Derived.LoopTactic
import Derived.Laws.Bits64b
import Derived.Laws.BytesString
import Derived.Deep.RegionHeld3
import Derived.Test.YtiiajhomdpfafaaGreatDoorShelf
import Derived.BigQuiet
import Derived.Test.YtiiajhomdpfafaaGreatDoorHae
import Derived.WalkKit
import Derived.BigCall
import Derived.Maps.AppendAt
import Derived.Laws.OwnMore
import Derived.Deep.OwnRows
import Derived.Test.YtiiajhomdpfafaaGreatDoorFlt
import Derived.Laws.AppendOwnNone
import Derived.OwnWalk
import Derived.Handy
import Derived.Test.YtiiajhomdpfafaaGreatDoorHan
import Derived.Laws.StructEq
import Derived.Lib.MinMax
import Derived.Test.YtiiajhomdpfafaaGreatDoorHak
import Derived.Deep.RegionWith
namespace Go.Proofs
open Go.Shelf
def Tryz.lays162_ren : Go.Shelf.Ren := ⟨fun | 162 => 152 | 232 => 185 | 227 => 186 | 234 => 187 | 236 => 188 | 228 => 211 | 271 => 212 | 151 => 213 | 120 => 246 | 197 => 247 | 152 => 248 | 260 => 278 | 137 => 279 | 119 => 280 | 224 => 281 | 225 => 282 | 217 => 295 | 266 => 300 | n => n, fun | 9 => 9 | 4 => 4 | 3 => 3 | 5 => 5 | 117 => 231 | 116 => 230 | 0 => 0 | 124 => 234 | 21 => 21 | 105 => 257 | 46 => 186 | 119 => 347 | 139 => 350 | 138 => 349 | n => n, fun | 3 => 14 | 4 => 15 | n => n⟩
theorem Tryz.lays162 : Go.Proofs.Lays.n162 Tryz.prog Tryz.lays162_ren := {
  mixed := by kernel_rfl
  f119 := Tryz.func280.trans (congrArg some (by kernel_rfl))
  f120 := Tryz.func246.trans (congrArg some (by kernel_rfl))
  f137 := Tryz.func279.trans (congrArg some (by kernel_rfl))
  f151 := Tryz.func213.trans (congrArg some (by kernel_rfl))
  f152 := Tryz.func248.trans (congrArg some (by kernel_rfl))
  f162 := Tryz.func152.trans (congrArg some (by kernel_rfl))
  f197 := Tryz.func247.trans (congrArg some (by kernel_rfl))
  f217 := Tryz.func295.trans (congrArg some (by kernel_rfl))
  f224 := Tryz.func281.trans (congrArg some (by kernel_rfl))
  f225 := Tryz.func282.trans (congrArg some (by kernel_rfl))
  f227 := Tryz.func186.trans (congrArg some (by kernel_rfl))
  f228 := Tryz.func211.trans (congrArg some (by kernel_rfl))
  f232 := Tryz.func185.trans (congrArg some (by kernel_rfl))
  f234 := Tryz.func187.trans (congrArg some (by kernel_rfl))
  f236 := Tryz.func188.trans (congrArg some (by kernel_rfl))
  f260 := Tryz.func278.trans (congrArg some (by kernel_rfl))
  f266 := Tryz.func300.trans (congrArg some (by kernel_rfl))
  f271 := Tryz.func212.trans (congrArg some (by kernel_rfl))
  t0 := Tryz.underlying0
  a0 := Tryz.isAgg0
  z0 := Tryz.sizeOf0
  v0 := Tryz.zeroValue0
  t3 := Tryz.underlying3
  a3 := Tryz.isAgg3
  z3 := Tryz.sizeOf3
  v3 := Tryz.zeroValue3
  t4 := Tryz.underlying4
  a4 := Tryz.isAgg4
  z4 := Tryz.sizeOf4
  v4 := Tryz.zeroValue4
  t5 := Tryz.underlying5
  a5 := Tryz.isAgg5
  z5 := Tryz.sizeOf5
  v5 := Tryz.zeroValue5
  t9 := Tryz.underlying9
  a9 := Tryz.isAgg9
  z9 := Tryz.sizeOf9
  v9 := Tryz.zeroValue9
  t21 := Tryz.underlying21
  a21 := Tryz.isAgg21
  z21 := Tryz.sizeOf21
  v21 := Tryz.zeroValue21
  t46 := Tryz.underlying186
  a46 := Tryz.isAgg186
  z46 := Tryz.sizeOf186
  v46 := Tryz.zeroValue186
  t105 := Tryz.underlying257
  a105 := Tryz.isAgg257
  z105 := Tryz.sizeOf257
  v105 := Tryz.zeroValue257
  t116 := Tryz.underlying230
  a116 := Tryz.isAgg230
  z116 := Tryz.sizeOf230
  t117 := Tryz.underlying231
  a117 := Tryz.isAgg231
  z117 := Tryz.sizeOf231
  v117 := Tryz.zeroValue231
  t119 := Tryz.underlying347
  a119 := Tryz.isAgg347
  z119 := Tryz.sizeOf347
  t124 := Tryz.underlying234
  a124 := Tryz.isAgg234
  z124 := Tryz.sizeOf234
  v124 := Tryz.zeroValue234
  t138 := Tryz.underlying349
  a138 := Tryz.isAgg349
  z138 := Tryz.sizeOf349
  v138 := Tryz.zeroValue349
  t139 := Tryz.underlying350
  a139 := Tryz.isAgg350
  z139 := Tryz.sizeOf350
  v139 := Tryz.zeroValue350
  g3 := by kernel_rfl
  g4 := by kernel_rfl }
def Tryz.laysM171_ren : Go.Shelf.Ren := ⟨fun | 171 => 83 | 243 => 123 | 246 => 160 | 283 => 197 | 284 => 198 | 285 => 199 | 286 => 200 | 129 => 210 | 317 => 218 | 318 => 219 | 319 => 220 | 320 => 221 | 337 => 251 | 338 => 252 | n => n, fun | 3 => 3 | 9 => 9 | 2 => 2 | 4 => 4 | 171 => 239 | 0 => 0 | 53 => 48 | 37 => 109 | 5 => 5 | 173 => 241 | 212 => 263 | 51 => 264 | 20 => 20 | 213 => 265 | 46 => 186 | 232 => 331 | 233 => 332 | n => n, fun | 17 => 4 | 18 => 11 | 19 => 12 | n => n⟩
theorem Tryz.laysM171 : Go.Proofs.LaysM.n171 Tryz.prog Tryz.laysM171_ren := {
  mixed := by kernel_rfl
  f129 := Tryz.func210.trans (congrArg some (by kernel_rfl))
  f171 := Tryz.func83.trans (congrArg some (by kernel_rfl))
  f243 := Tryz.func123.trans (congrArg some (by kernel_rfl))
  f246 := Tryz.func160.trans (congrArg some (by kernel_rfl))
  f283 := Tryz.func197.trans (congrArg some (by kernel_rfl))
  f284 := Tryz.func198.trans (congrArg some (by kernel_rfl))
  f285 := Tryz.func199.trans (congrArg some (by kernel_rfl))
  f286 := Tryz.func200.trans (congrArg some (by kernel_rfl))
  f317 := Tryz.func218.trans (congrArg some (by kernel_rfl))
  f318 := Tryz.func219.trans (congrArg some (by kernel_rfl))
  f319 := Tryz.func220.trans (congrArg some (by kernel_rfl))
  f320 := Tryz.func221.trans (congrArg some (by kernel_rfl))
  f337 := Tryz.func251.trans (congrArg some (by kernel_rfl))
  f338 := Tryz.func252.trans (congrArg some (by kernel_rfl))
  t0 := Tryz.underlying0
  a0 := Tryz.isAgg0
  z0 := Tryz.sizeOf0
  v0 := Tryz.zeroValue0
  t2 := Tryz.underlying2
  a2 := Tryz.isAgg2
  z2 := Tryz.sizeOf2
  v2 := Tryz.zeroValue2
  t3 := Tryz.underlying3
  a3 := Tryz.isAgg3
  z3 := Tryz.sizeOf3
  v3 := Tryz.zeroValue3
  t4 := Tryz.underlying4
  a4 := Tryz.isAgg4
  z4 := Tryz.sizeOf4
  v4 := Tryz.zeroValue4
  t5 := Tryz.underlying5
  a5 := Tryz.isAgg5
  z5 := Tryz.sizeOf5
  v5 := Tryz.zeroValue5
  t9 := Tryz.underlying9
  a9 := Tryz.isAgg9
  z9 := Tryz.sizeOf9
  v9 := Tryz.zeroValue9
  t20 := Tryz.underlying20
  a20 := Tryz.isAgg20
  z20 := Tryz.sizeOf20
  v20 := Tryz.zeroValue20
  t37 := Tryz.underlying109
  a37 := Tryz.isAgg109
  z37 := Tryz.sizeOf109
  v37 := Tryz.zeroValue109
  t46 := Tryz.underlying186
  a46 := Tryz.isAgg186
  z46 := Tryz.sizeOf186
  v46 := Tryz.zeroValue186
  t51 := Tryz.underlying264
  a51 := Tryz.isAgg264
  z51 := Tryz.sizeOf264
  v51 := Tryz.zeroValue264
  t53 := Tryz.underlying48
  a53 := Tryz.isAgg48
  z53 := Tryz.sizeOf48
  v53 := Tryz.zeroValue48
  t171 := Tryz.underlying239
  a171 := Tryz.isAgg239
  z171 := Tryz.sizeOf239
  v171 := Tryz.zeroValue239
  t173 := Tryz.underlying241
  a173 := Tryz.isAgg241
  z173 := Tryz.sizeOf241
  v173 := Tryz.zeroValue241
  t212 := Tryz.underlying263
  a212 := Tryz.isAgg263
  z212 := Tryz.sizeOf263
  v212 := Tryz.zeroValue263
  t213 := Tryz.underlying265
  a213 := Tryz.isAgg265
  z213 := Tryz.sizeOf265
  t232 := Tryz.underlying331
  a232 := Tryz.isAgg331
  z232 := Tryz.sizeOf331
  v232 := Tryz.zeroValue331
  t233 := Tryz.underlying332
  a233 := Tryz.isAgg332
  z233 := Tryz.sizeOf332
  v233 := Tryz.zeroValue332
  g17 := by kernel_rfl
  g18 := by kernel_rfl
  g19 := by kernel_rfl
  i0 := by kernel_rfl
  i2 := by kernel_rfl
  i3 := by kernel_rfl
  i4 := by kernel_rfl
  i5 := by kernel_rfl
  i9 := by kernel_rfl
  i20 := by kernel_rfl
  i37 := by kernel_rfl
  i46 := by kernel_rfl
  i51 := by kernel_rfl
  i53 := by kernel_rfl
  i171 := by kernel_rfl
  i173 := by kernel_rfl
  i212 := by kernel_rfl
  i232 := by kernel_rfl
  i233 := by kernel_rfl
  m17 := by kernel_rfl
  m18 := by kernel_rfl
  m19 := by kernel_rfl }
def Tryz.lays156_ren : Go.Shelf.Ren := ⟨fun | 156 => 22 | 165 => 56 | 166 => 57 | 169 => 58 | 240 => 96 | 241 => 97 | 276 => 130 | 277 => 131 | n => n, fun | 31 => 61 | 9 => 9 | 3 => 3 | 4 => 4 | 0 => 0 | 20 => 20 | 72 => 111 | 76 => 115 | 70 => 108 | 37 => 109 | 75 => 114 | 127 => 148 | 164 => 181 | 5 => 5 | 80 => 82 | n => n, fun | n => n⟩
theorem Tryz.lays156 : Go.Proofs.Lays.n156 Tryz.prog Tryz.lays156_ren := {
  mixed := by kernel_rfl
  f156 := Tryz.func22.trans (congrArg some (by kernel_rfl))
  f165 := Tryz.func56.trans (congrArg some (by kernel_rfl))
  f166 := Tryz.func57.trans (congrArg some (by kernel_rfl))
  f169 := Tryz.func58.trans (congrArg some (by kernel_rfl))
  f240 := Tryz.func96.trans (congrArg some (by kernel_rfl))
  f241 := Tryz.func97.trans (congrArg some (by kernel_rfl))
  f276 := Tryz.func130.trans (congrArg some (by kernel_rfl))
  f277 := Tryz.func131.trans (congrArg some (by kernel_rfl))
  t0 := Tryz.underlying0
  a0 := Tryz.isAgg0
  z0 := Tryz.sizeOf0
  v0 := Tryz.zeroValue0
  t3 := Tryz.underlying3
  a3 := Tryz.isAgg3
  z3 := Tryz.sizeOf3
  v3 := Tryz.zeroValue3
  t4 := Tryz.underlying4
  a4 := Tryz.isAgg4
  z4 := Tryz.sizeOf4
  v4 := Tryz.zeroValue4
  t9 := Tryz.underlying9
  a9 := Tryz.isAgg9
  z9 := Tryz.sizeOf9
  v9 := Tryz.zeroValue9
  t20 := Tryz.underlying20
  a20 := Tryz.isAgg20
  z20 := Tryz.sizeOf20
  v20 := Tryz.zeroValue20
  t31 := Tryz.underlying61
  a31 := Tryz.isAgg61
  z31 := Tryz.sizeOf61
  v31 := Tryz.zeroValue61
  t37 := Tryz.underlying109
  a37 := Tryz.isAgg109
  z37 := Tryz.sizeOf109
  v37 := Tryz.zeroValue109
  t70 := Tryz.underlying108
  a70 := Tryz.isAgg108
  z70 := Tryz.sizeOf108
  v70 := Tryz.zeroValue108
  t72 := Tryz.underlying111
  a72 := Tryz.isAgg111
  z72 := Tryz.sizeOf111
  v72 := Tryz.zeroValue111
  t75 := Tryz.underlying114
  a75 := Tryz.isAgg114
  z75 := Tryz.sizeOf114
  v75 := Tryz.zeroValue114
  t76 := Tryz.underlying115
  a76 := Tryz.isAgg115
  z76 := Tryz.sizeOf115
  v76 := Tryz.zeroValue115
  t127 := Tryz.underlying148
  a127 := Tryz.isAgg148
  z127 := Tryz.sizeOf148
  v127 := Tryz.zeroValue148
  t164 := Tryz.underlying181
  a164 := Tryz.isAgg181
  z164 := Tryz.sizeOf181
  v164 := Tryz.zeroValue181 }
end Go.Proofs
namespace Go.Proofs.YtiiajhomdpfafaaGreatDoor
end Go.Proofs.YtiiajhomdpfafaaGreatDoor
namespace Go.Proofs.YtiiajhomdpfafaaGreatDoor
open Go.RowKit Go.Shelf

theorem joinX : Builder.Extra Tryz.prog Tryz.lays156_ren where
  sizeBuilder := by kernel_rfl
  liesBuilder := by kernel_rfl
  t5 := Tryz.laysM171.t5
  a5 := Tryz.laysM171.a5
  z5 := Tryz.laysM171.z5
  v5 := Tryz.laysM171.v5
  infoByte := by kernel_rfl
  cellsByte := by kernel_rfl
  sizeByte := by kernel_rfl
  neB5 := by decide
theorem join_go (bk o c : Nat) (xs : List ByteArray) (sep : ByteArray) (w : World)
    (hcells : ∀ (j : Nat) x, xs[j]? = some x → w.cell? ⟨bk, o + j, none⟩ = some (.string x))
    (hbk : bk < w.heap.size) (hN : xs.length ≤ 140737488355328) (hcap : xs.length ≤ c)
    (hlen : (Lib.join (xs.map (·.data.toList)) sep.data.toList).length ≤ 140737488355328) :
    Calls Tryz.prog 22 #[.slice (some ⟨bk, o, none⟩) xs.length c, .string sep] w fun e w' => e = .returned (.string ⟨(Lib.join (xs.map (·.data.toList)) sep.data.toList).toArray⟩) ∧ Below w.heap.size w w' :=
  Any.strings_Join Tryz.lays156 joinX bk o c xs sep w hcells hbk hN hcap hlen
end Go.Proofs.YtiiajhomdpfafaaGreatDoor
namespace Go.Proofs.YtiiajhomdpfafaaGreatDoor
open Go.RowKit

end Go.Proofs.YtiiajhomdpfafaaGreatDoor
namespace Go.Proofs.YtiiajhomdpfafaaGreatDoor
open Go.RowKit

end Go.Proofs.YtiiajhomdpfafaaGreatDoor
namespace Go.Proofs.YtiiajhomdpfafaaGreatDoor
open Go.RowKit

theorem and15 {z : Nat} (h : z < 18446744073709551616) : bits .and .u64 (z : Int) 15 = ((z % 16 : Nat) : Int) := by
  have e := bits_and_u64_nat z 15 h (by decide)
  have e2 : z &&& 15 = z % 16 := Nat.and_two_pow_sub_one_eq_mod z 4
  rw [e2] at e
  exact e
set_option maxRecDepth 20000 in
set_option maxHeartbeats 6400000 in
theorem tz_16 (w : World) (h : w.cell? ⟨12, 15, none⟩ = some (.int .u8 4)) : Calls Tryz.prog 221 #[.int .u64 16] w fun e w' => e = .returned (.int .i64 4) ∧ w' = w := by
  have b0 : IntKind.u64.wrap (-16) = 18446744073709551600 := by kernel_rfl
  have b1 : bits BinOp.and IntKind.u64 16 18446744073709551600 = 16 := by kernel_rfl
  have b2 : IntKind.u64.wrap 4573923408821661840 = 4573923408821661840 := by kernel_rfl
  go_enter Tryz.func221, Tryz.ntmps221
  go_wp2_with go_in
  go_ret
  exact ⟨by rfl, rfl⟩
def hxD (n : Nat) : Nat := if n < 10 then 48 + n else 87 + n
def hxL : Nat → Nat → List Nat
  | 0, u => [hxD u]
  | k + 1, u => hxL k (u / 16) ++ [hxD (u % 16)]
theorem hxL_len : ∀ k u, (hxL k u).length = k + 1
  | 0, _ => rfl
  | k + 1, u => by rw [hxL, List.length_append, hxL_len k]; rfl
theorem hxL_get : ∀ k u j, j < k → (hxL k u)[k - j]? = some (hxD (u / 16 ^ j % 16))
  | 0, _, j, h => by omega
  | k + 1, u, 0, _ => by
    rw [hxL, List.getElem?_append_right (by rw [hxL_len]; omega), hxL_len]
    simp
  | k + 1, u, j + 1, h => by
    rw [hxL, List.getElem?_append_left (by rw [hxL_len]; omega), show k + 1 - (j + 1) = k - j by omega, hxL_get k (u / 16) j (by omega), Nat.pow_succ', Nat.div_div_eq_div_mul]
theorem hxL_head : ∀ k u, (hxL k u)[0]? = some (hxD (u / 16 ^ k))
  | 0, u => by simp [hxL]
  | k + 1, u => by rw [hxL, List.getElem?_append_left (by rw [hxL_len]; omega), hxL_head k, Nat.pow_succ', Nat.div_div_eq_div_mul]
structure HxB (w : World) (g u k : Nat) (wr : World) : Prop where
  bel : Below w.heap.size w wr
  box : ∃ A : Array Value, wr.heap[g]? = some (.cells A 265) ∧ A.size = 65 ∧ ∀ j, j < k → A[64 - j]? = some (.int .u8 (hxD (u / 16 ^ j % 16) : Nat))
theorem idx_hex (n : Nat) (hn : n < 16) : ∀ h, ((⟨#[48, 49, 50, 51, 52, 53, 54, 55, 56, 57, 97, 98, 99, 100, 101, 102, 103, 104, 105, 106, 107, 108, 109, 110, 111, 112, 113, 114, 115, 116, 117, 118, 119, 120, 121, 122]⟩ : ByteArray)[n]'h).toNat = hxD n := by
  intro h
  rcases (show n = 0 ∨ n = 1 ∨ n = 2 ∨ n = 3 ∨ n = 4 ∨ n = 5 ∨ n = 6 ∨ n = 7 ∨ n = 8 ∨ n = 9 ∨ n = 10 ∨ n = 11 ∨ n = 12 ∨ n = 13 ∨ n = 14 ∨ n = 15 by omega) with rfl | rfl | rfl | rfl | rfl | rfl | rfl | rfl | rfl | rfl | rfl | rfl | rfl | rfl | rfl | rfl <;> rfl
end Go.Proofs.YtiiajhomdpfafaaGreatDoor
namespace Go.Proofs.YtiiajhomdpfafaaGreatDoor
open Go.RowKit

theorem HxB.step {w wr : World} {g u k I : Nat} {x : Value} (h : HxB w g u k wr) (hg : w.heap.size ≤ g) (hI : 65 - k = I + 1) (hx : x = .int .u8 (hxD (u / 16 ^ k % 16) : Nat)) : HxB w g u (k + 1) (wr.setCell ⟨g, I, none⟩ x) := by
  obtain ⟨A, hA, h65, hj⟩ := h.box
  refine ⟨h.bel.setCell (p := ⟨g, I, none⟩) hg _, _, heap_setCell_same wr g I _ _ _ hA, by simp [h65], fun j hjk => ?_⟩
  rw [Array.getElem?_setIfInBounds]
  by_cases e : j = k
  · rw [if_pos (by omega), if_pos (by omega), hx, e]
  · rw [if_neg (by omega)]
    exact hj j (by omega)
theorem push_all : ∀ (ns : List Int) (acc : ByteArray), ns.foldl (fun r n => r.push (UInt8.ofNat n.toNat)) acc = ⟨acc.data ++ (ns.map fun n => UInt8.ofNat n.toNat).toArray⟩
  | [], acc => by simp
  | n :: ns, acc => by
    rw [List.foldl_cons, push_all ns]
    simp [ByteArray.push]
theorem conv_hx {w w5 : World} {g u K I : Nat} (h : HxB w g u (K + 1) w5) (hI : 65 - K = I + 1) (hK : K ≤ 15) (hK0 : u / 16 ^ K < 16) : (convert 109 9 (.slice (some ⟨g, I, none⟩) (65 - I) (65 - I))).run Tryz.prog w5 = .ok (.string ⟨((hxL K u).map UInt8.ofNat).toArray⟩) w5 := by
  obtain ⟨A, hA, h65, hj⟩ := h.box
  have hn : 65 - I = ((hxL K u).map fun n : Nat => (n : Int)).length := by rw [List.length_map, hxL_len]; omega
  rw [run_convert_bytes_string _ 109 9 5 _ _ _ Tryz.underlying109 Tryz.underlying5 Tryz.underlying9]
  rw [run_bytesToString _ ⟨g, I, none⟩ _ _ ((hxL K u).map fun n : Nat => (n : Int)) ?_]
  · rw [push_all, List.map_map]
    show Result.ok (Value.string ⟨#[] ++ (List.map ((fun n : Int => UInt8.ofNat n.toNat) ∘ fun n : Nat => (n : Int)) (hxL K u)).toArray⟩) w5 = _
    rw [Array.empty_append]
    rfl
  · have hcs : ∀ j v, (((hxL K u).map fun n : Nat => (n : Int)).map (Value.int .u8))[j]? = some v → w5.cell? (Addr.add ⟨g, I, none⟩ j) = some v := fun j v hv => by
      rw [List.getElem?_map, List.getElem?_map] at hv
      have hjl : j < K + 1 := by
        rcases Nat.lt_or_ge j (K + 1) with h | h
        · exact h
        · rw [List.getElem?_eq_none (by rw [hxL_len]; omega)] at hv; cases hv
      rw [Addr.add_lit]
      refine (by_cell hA (I + j) ?_).1
      have e := hj (K - j) (by omega)
      rw [show 64 - (K - j) = I + j by omega] at e
      rw [e, ← hv]
      by_cases h0 : j = 0
      · subst h0
        rw [hxL_head, Nat.sub_zero, Nat.mod_eq_of_lt hK0]
        rfl
      · have := hxL_get K u (K - j) (by omega)
        rw [show K - (K - j) = j by omega] at this
        rw [this]
        rfl
    have := run_loadCells_list (P := Tryz.prog) w5 ⟨g, I, none⟩ _ hcs
    rw [List.length_map, ← hn] at this
    exact this
set_option maxRecDepth 20000 in
set_option maxHeartbeats 12800000 in
theorem fbits16 (u K : Nat) (hu : u < 18446744073709551616) (hK : K ≤ 15) (hK0 : u / 16 ^ K < 16) (hK1 : ∀ k, k < K → 16 ≤ u / 16 ^ k) (w : World) (h : w.cell? ⟨12, 15, none⟩ = some (.int .u8 4)) : Calls Tryz.prog 200 #[.slice none 0 0, .int .u64 (u : Int), .int .i64 16, .bool false, .bool false] w fun e w' => e = .returned (.tuple #[.slice none 0 0, .string ⟨((hxL K u).map UInt8.ofNat).toArray⟩]) ∧ Below w.heap.size w w' := by
  have HT : Hid (∀ wx, Below w.heap.size w wx → wx.cell? ⟨12, 15, none⟩ = some (.int .u8 4)) := fun wx hb => (World.cell?_of_block (w := w) (a := ⟨_, 15, none⟩) (hb.block _ (World.block_lt_of_cell? _ _ h))).trans h
  have H0 : Hid (HxB w w.heap.size u 0 (w.alloc (.cells Tryz.zeroCells265 265))) := ⟨(Below.refl _ _).alloc (Nat.le_refl _) _, _, heap_alloc_new _ _, by kernel_rfl, fun j hj => by omega⟩
  have HZ : Hid (Calls Tryz.prog 221 #[.int .u64 16] (w.alloc (.cells Tryz.zeroCells265 265)) fun e w' => e = .returned (.int .i64 4) ∧ w' = w.alloc (.cells Tryz.zeroCells265 265)) := tz_16 _ (HT.out _ H0.out.bel)
  have HK := hidT (And.intro hK0 hK1)
  have HU := hidT hu
  have b0 : bits BinOp.and IntKind.i64 16 15 = 0 := by kernel_rfl
  have i0 : (0 : Int) ≤ (u : Int) := by omega
  have i1 : (u : Int) ≤ 18446744073709551615 := by omega
  clear h hu hK0 hK1
  go_enter Tryz.func200, Tryz.ntmps200
  go_wp2_with (first | (go_at_call 221; refine HZ.out.mono ?_; rintro e w1 ⟨rfl, rfl⟩) | go_in)
  go_loopw [1, 13] (fun uv iv wr => ∃ k : Nat, k ≤ K ∧ uv = .int .u64 ((u / 16 ^ k : Nat) : Int) ∧ iv = .int .i64 ((65 - k : Nat) : Int) ∧ Hid (HxB w w.heap.size u k wr)) (fun _ iv _ => (intOf iv).toNat)
  case atStart => exact ⟨0, Nat.zero_le _, by simp, by simp, H0⟩
  case round =>
    clear H0 HZ
    obtain ⟨k, hk, rfl, rfl, HB⟩ := hrel
    obtain ⟨U, hU⟩ : ∃ U, u / 16 ^ k = U := ⟨_, rfl⟩
    have hU0 : U < 18446744073709551616 := by rw [← hU]; exact Nat.lt_of_le_of_lt (Nat.div_le_self _ _) HU.out
    obtain ⟨A, hA, hA65, hAj⟩ := HB.out.box
    have HA := hidT (And.intro hA (And.intro hA65 hAj))
    rw [hU]
    obtain ⟨D, hD⟩ : ∃ D, U % 16 = D := ⟨_, rfl⟩
    have hD0 : D < 16 := by omega
    have e1 : bits .and .u64 (U : Int) 15 = (D : Int) := by rw [and15 hU0, hD]
    obtain ⟨I, hI⟩ : ∃ I, 65 - k = I + 1 := ⟨64 - k, by omega⟩
    obtain ⟨x, hx⟩ : ∃ x, A[I]? = some x := ⟨_, Array.getElem?_eq_getElem (by omega)⟩
    have x0 := (by_cell hA I hx).1
    have x1 := (by_cell hA I hx).2
    rw [hI]
    have HI := hidT hI
    have i2 : (((I + 1 : Nat) : Int) - 1) = (I : Int) := by omega
    have i3 : (I : Int) < 65 := by omega
    have i4 : (0 : Int) ≤ (I : Int) := by omega
    have d0 : (0 : Int) ≤ (D : Int) := by omega
    have d1 : (D : Int) < 36 := by omega
    have i5 : (I : Int) ≤ 65 := by omega
    have i6 : ¬ (65 : Int) < (I : Int) := by omega
    have i7 : I ≤ 65 := by omega
    clear hA hA65 hAj hx hI
    by_cases hlt : k < K
    · have t1 : (16 : Int) ≤ (U : Int) := by have := HK.out.2 k hlt; omega
      go_wp2_with fail
      refine ⟨⟨k + 1, hlt, by rw [Nat.pow_succ, ← Nat.div_div_eq_div_mul, hU]; rfl, by rw [show 65 - (k + 1) = I by have := HI.out; omega], HB.out.step (Nat.le_refl _) HI.out (by rw [hU, hD]; exact congrArg (fun n : Nat => Value.int .u8 (n : Int)) (idx_hex D hD0 _))⟩, ?_⟩
      simp [intOf]
    · obtain rfl : k = K := by omega
      have t1 : ¬ (16 : Int) ≤ (U : Int) := by have := HK.out.1; omega
      have t2 : (U : Int) < 36 := by omega
      have hU16 : U < 16 := by have := HK.out.1; omega
      have HB5 : Hid (HxB w w.heap.size u (k + 1) (wr.setCell ⟨w.heap.size, I, none⟩ (.int .u8 (hxD U : Nat)))) := HB.out.step (Nat.le_refl _) HI.out (by rw [hU, Nat.mod_eq_of_lt hU16])
      have hix : ∀ h, (({ data := #[48, 49, 50, 51, 52, 53, 54, 55, 56, 57, 97, 98, 99, 100, 101, 102, 103, 104, 105, 106, 107, 108, 109, 110, 111, 112, 113, 114, 115, 116, 117, 118, 119, 120, 121, 122] } : ByteArray)[U]'h).toNat = hxD U := idx_hex U hU16
      have hcv := conv_hx HB5.out HI.out hK HK.out.1
      generalize hxD U = dU at *
      go_wp2_with fail
      go_ret2
      exact ⟨rfl, HB5.out.bel⟩
end Go.Proofs.YtiiajhomdpfafaaGreatDoor
namespace Go.Proofs.YtiiajhomdpfafaaGreatDoor
open Go.RowKit

theorem pad_size (n k : Nat) : (padB n k).size = k := by
  induction k with
  | zero => rfl
  | succ k ih =>
    show ((⟨#[dg (n / 10 ^ k)]⟩ : ByteArray) ++ padB n k).size = k + 1
    rw [ByteArray.size_append, ih]
    show 1 + k = k + 1
    omega

theorem conv_oneP (b : Int) (w : World) : (convert 109 9 (.slice (some ⟨w.heap.size, 0, none⟩) 1 1)).run Tryz.prog (w.alloc (.cells #[.int .u8 b] 5)) = .ok (.string ⟨#[UInt8.ofNat b.toNat]⟩) (w.alloc (.cells #[.int .u8 b] 5)) := by
  rw [run_convert_bytes_string _ 109 9 5 _ 1 1 Tryz.underlying109 Tryz.underlying5 Tryz.underlying9]
  rw [run_bytesToString _ ⟨w.heap.size, 0, none⟩ 1 1 [b] ?_]
  · rfl
  · simp [loadCells, go_sem]

set_option maxHeartbeats 800000 in
theorem padded_any (n k : Nat) (w : World) (hn : n < 10000) (hk : k ≤ 4) :
    Calls Tryz.prog 138 #[.int .i64 (n : Int), .int .i64 (k : Int)] w fun e w' => e = .returned (.string (padB n k)) ∧ Below w.heap.size w w' := by
  obtain ⟨R, hR⟩ : ∃ R, padB n k = R := ⟨_, rfl⟩
  rw [hR]
  have HR := hideS hR
  clear hR
  obtain ⟨K, hK⟩ : ∃ K : Int, (k : Int) = K := ⟨_, rfl⟩
  rw [hK]
  have HK := hideS hK
  have k0 : 0 ≤ K := by omega
  have k1 : K ≤ 4 := by omega
  clear hK
  obtain ⟨N0, hN⟩ : ∃ N : Int, (n : Int) = N := ⟨_, rfl⟩
  rw [hN]
  have HN0 := hideS hN
  have n0 : 0 ≤ N0 := by omega
  have n1 : N0 ≤ 10000 := by omega
  clear hN
  go_enter Tryz.func138, Tryz.ntmps138
  go_wp2_with fail
  go_loopw [6, 0, 5] (fun i c v wr => ∃ (j : Nat) (I N : Int) (s : ByteArray), 0 ≤ I ∧ I ≤ K ∧ 0 ≤ N ∧ N ≤ 10000 ∧ i = .int .i64 I ∧ c = .int .i64 N ∧ v = .string s ∧ s.size ≤ 4 ∧ Hid (Below w.heap.size w wr) ∧ Hid (I = j ∧ N = (n / 10 ^ j : Nat) ∧ s = padB n j)) (fun i _ _ _ => (K - intOf i).toNat)
  case atStart => exact ⟨0, 0, N0, ⟨#[]⟩, by omega, by omega, by omega, by omega, rfl, rfl, rfl, by decide, Below.refl _ _, rfl, by rw [Nat.pow_zero, Nat.div_one]; exact HN0.out.symm, rfl⟩
  case round =>
    obtain ⟨j, I, N, s, hI0, hI1, hN0, hN1, rfl, rfl, rfl, hs, HB, HI⟩ := hrel
    by_cases hlt : I < K
    · have hcv := fun b wx => conv_oneP b wx
      have m0 : 0 ≤ N % 10 := by omega
      have m1 : N % 10 ≤ 9 := by omega
      have HS : Hid ((⟨#[UInt8.ofNat (48 + N % 10).toNat]⟩ : ByteArray) ++ s = padB n (j + 1)) := by
        obtain ⟨_, e2, e3⟩ := HI.out
        show _ = (⟨#[dg (n / 10 ^ j)]⟩ : ByteArray) ++ padB n j
        rw [e3]
        unfold dg
        rw [show (48 + N % 10).toNat = 48 + n / 10 ^ j % 10 by omega]
      have HN' : Hid (N / 10 = (n / 10 ^ (j + 1) : Nat)) := by
        obtain ⟨_, e2, _⟩ := HI.out
        show _ = _
        rw [Nat.pow_succ, ← Nat.div_div_eq_div_mul]
        omega
      have HZ : Hid (s.size ≤ 3) := by
        obtain ⟨e1, _, e3⟩ := HI.out
        show _ ≤ _
        rw [e3, pad_size]; omega
      go_wp2_with fail
      go_roundw
      case rel => exact ⟨j + 1, I + 1, N / 10, _, by omega, by omega, by omega, by omega, rfl, rfl, rfl, by rw [ByteArray.size_append]; have := HZ.out; show 1 + s.size ≤ 4; omega, HB.out.alloc HB.out.size _, by have := HI.out.1; omega, HN'.out, HS.out⟩
      case measure => simp [intOf]; omega
    · have HE : Hid (s = R) := by
        obtain ⟨e1, _, e3⟩ := HI.out
        have := HK.out
        show _ = _
        rw [e3, ← HR.out, show j = k by omega]
      go_wp2_with fail
      go_ret
      obtain rfl := HE.out
      exact ⟨rfl, HB.out⟩

def Cells3 (b : Nat) (y m d : Int) (w : World) : Prop := w.cell? ⟨b, 0, none⟩ = some (.int .i64 y) ∧ w.cell? ⟨b, 1, none⟩ = some (.int .i64 m) ∧ w.cell? ⟨b, 2, none⟩ = some (.int .i64 d)
theorem Cells3.below {b : Nat} {y m d : Int} {w w' : World} (h : Cells3 b y m d w) (hb : Below w.heap.size w w') (hz : b < w.heap.size) : Cells3 b y m d w' :=
  ⟨(hb.cell (p := ⟨b, 0, none⟩) hz).trans h.1, (hb.cell (p := ⟨b, 1, none⟩) hz).trans h.2.1, (hb.cell (p := ⟨b, 2, none⟩) hz).trans h.2.2⟩
theorem boxed {w w1 : World} {y m d : Int} (hb : Below w.heap.size w w1) : ∃ wa, w1.alloc (.cells #[.int .i64 y, .int .i64 m, .int .i64 d] 191) = wa ∧ Hid (Cells3 w1.heap.size y m d wa) ∧ Hid (w1.heap.size < wa.heap.size) ∧ Hid (Below w.heap.size w wa) := by
  refine ⟨_, rfl, ⟨?_, ?_, ?_⟩, ?_, hb.alloc hb.size _⟩
  · simp
  · simp
  · simp
  · show _ < _; simp

set_option maxHeartbeats 1600000 in
theorem refPrint_ok (n : Int) (y m d : Nat) (w : World) (h : IsD n y m d) :
    Calls Tryz.prog 101 #[.int .i64 n] w fun e w' => e = .returned (.tuple #[.string (dateT y m d), .int .i64 0]) ∧ Below w.heap.size w w' := by
  have HC := hideS (refCiv_ok n y m d w h)
  unfold dateV at HC
  obtain ⟨y1, y2, m1, m2, d1, d2⟩ := h.1
  have d3 := len_hi (y : Int) (m : Int)
  have H1 : Hid (∀ w, Calls Tryz.prog 138 #[.int .i64 (y : Int), .int .i64 4] w fun e w' => e = .returned (.string (t4 y)) ∧ Below w.heap.size w w') := fun w => by
    have := padded_any y 4 w (by omega) (by omega)
    rw [pad4] at this; exact this
  have H2 : Hid (∀ w, Calls Tryz.prog 138 #[.int .i64 (m : Int), .int .i64 2] w fun e w' => e = .returned (.string (t2 m)) ∧ Below w.heap.size w w') := fun w => by
    have := padded_any m 2 w (by omega) (by omega)
    rw [pad2] at this; exact this
  have H3 : Hid (∀ w, Calls Tryz.prog 138 #[.int .i64 (d : Int), .int .i64 2] w fun e w' => e = .returned (.string (t2 d)) ∧ Below w.heap.size w w') := fun w => by
    have := padded_any d 2 w (by omega) (by omega)
    rw [pad2] at this; exact this
  unfold dateT dash
  have z1 : (t4 y).size = 4 := rfl
  have z2 : (t2 m).size = 2 := rfl
  have z3 : (t2 d).size = 2 := rfl
  clear h d2 d3
  generalize t4 y = s1 at *
  generalize t2 m = s2 at *
  generalize t2 d = s3 at *
  generalize (y : Int) = Y at *
  generalize (m : Int) = M at *
  generalize (d : Int) = D at *
  go_enter Tryz.func101, Tryz.ntmps101
  go_wp2_with fail
  refine HC.out.mono ?_
  rintro e w1 ⟨rfl, hb1⟩
  have HB1 := hideS hb1
  clear hb1
  go_wp2_with fail
  obtain ⟨wa, hwa, HS1, hz, HBa⟩ := boxed (y := Y) (m := M) (d := D) HB1.out
  rw [hwa]
  clear hwa
  generalize w1.heap.size = b at *
  go_region_held3 (fun w' => w'.cell? ⟨b, 0, none⟩ = some (.int .i64 Y) ∧ w'.cell? ⟨b, 1, none⟩ = some (.int .i64 M) ∧ w'.cell? ⟨b, 2, none⟩ = some (.int .i64 D)) (first | exact HS1.out | exact HS2.out | exact HS3.out | exact HS4.out | go_keep) (first | ((go_at_call_of 138 (Value.int IntKind.i64 Y); refine (H1.out _).mono ?_; rintro e w2 ⟨rfl, hb2⟩; have HB2 := hideS (HBa.out.drew.trans (hb2.mono HBa.out.drew.size)); have HS2 := hideS (Cells3.below (w := wa.drew) HS1.out hb2 hz.out); have hz2 := hideS (Nat.lt_of_lt_of_le hz.out hb2.size); clear hb2)) | ((go_at_call_of 138 (Value.int IntKind.i64 M); refine (H2.out _).mono ?_; rintro e w3 ⟨rfl, hb3⟩; have HB3 := hideS (HB2.out.trans (hb3.mono HB2.out.size)); have HS3 := hideS (Cells3.below HS2.out hb3 hz2.out); have hz3 := hideS (Nat.lt_of_lt_of_le hz2.out hb3.size); clear hb3)) | ((go_at_call_of 138 (Value.int IntKind.i64 D); refine (H3.out _).mono ?_; rintro e w4 ⟨rfl, hb4⟩; have HB4 := hideS (HB3.out.trans (hb4.mono HB3.out.size)); have HS4 := hideS (Cells3.below HS3.out hb4 hz3.out); clear hb4)))
  all_goals
    go_wp2_with fail
    go_ret2
    exact ⟨rfl, HB4.out⟩
end Go.Proofs.YtiiajhomdpfafaaGreatDoor
namespace Go.Proofs.YtiiajhomdpfafaaGreatDoor
open Go.RowKit

end Go.Proofs.YtiiajhomdpfafaaGreatDoor
namespace Go.Proofs.YtiiajhomdpfafaaGreatDoor
open Go.RowKit

def joinN (m e : Int) : Nat := if m = 0 then 0 else if m < 0 then 9223372036854775808 + nearR m.natAbs e else nearR m.natAbs e

end Go.Proofs.YtiiajhomdpfafaaGreatDoor
namespace Go.Proofs.YtiiajhomdpfafaaGreatDoor
open Go.RowKit

theorem and_mask52 {z : Int} (h0 : 0 ≤ z) (h : z < 18446744073709551616) : bits .and .u64 z 4503599627370495 = z % 4503599627370496 := by
  obtain ⟨b, rfl⟩ := Int.eq_ofNat_of_zero_le h0
  have := bits_and_u64_nat b 4503599627370495 (by omega) (by decide)
  rw [show ((4503599627370495 : Nat) : Int) = 4503599627370495 from rfl] at this
  rw [this]
  have e := Nat.and_two_pow_sub_one_eq_mod b 52
  rw [show (2 : Nat) ^ 52 - 1 = 4503599627370495 from rfl, show (2 : Nat) ^ 52 = 4503599627370496 from rfl] at e
  rw [e]; omega
theorem or_hidden {z : Int} (h0 : 0 ≤ z) (h : z < 4503599627370496) : bits .or .u64 z 4503599627370496 = 4503599627370496 + z := by
  obtain ⟨b, rfl⟩ := Int.eq_ofNat_of_zero_le h0
  have := bits_or_u64_nat b 4503599627370496 (by omega) (by decide)
  rw [show ((4503599627370496 : Nat) : Int) = 4503599627370496 from rfl] at this
  rw [this]
  have h2 := Nat.two_pow_add_eq_or_of_lt (i := 52) (b := b) (by omega) 1
  rw [Nat.or_comm, show (4503599627370496 : Nat) = 2 ^ 52 * 1 from rfl, ← h2]
  omega

def magI (z : Int) : Int := if z < 4503599627370496 then z else 4503599627370496 + z % 4503599627370496
def plcI (z : Int) : Int := if z < 4503599627370496 then -1074 else z / 4503599627370496 - 1075
def splOk (u : Int) : Bool := decide (szI u < 9218868437227405312)
def splM (u : Int) : Int := if splOk u then (if sgB u then -magI (szI u) else magI (szI u)) else 0
def splE (u : Int) : Int := if splOk u && decide (szI u ≠ 0) then plcI (szI u) else 0

set_option maxHeartbeats 400000 in
theorem split_no (b : Nat) (u : Int) (w : World) (hu : Hid (u = b)) (h : U64 u) (h1 : 9218868437227405312 ≤ szI u) :
    Calls Tryz.prog 110 #[.float .f64 b] w fun e w' => e = .returned (.tuple #[.int .i64 0, .int .i64 0, .bool false]) ∧ w' = w := by
  go_enter Tryz.func110, Tryz.ntmps110
  go_wp2_with (go_at_call 149; refine (size_as _ _ _ hu h).mono ?_; rintro e w' ⟨rfl, rfl⟩)
  go_ret3
  exact ⟨rfl, rfl⟩

set_option maxHeartbeats 400000 in
theorem split_zero (b : Nat) (u : Int) (w : World) (hu : Hid (u = b)) (h : U64 u) (h1 : szI u = 0) :
    Calls Tryz.prog 110 #[.float .f64 b] w fun e w' => e = .returned (.tuple #[.int .i64 0, .int .i64 0, .bool true]) ∧ w' = w := by
  go_enter Tryz.func110, Tryz.ntmps110
  go_wp2_with (go_at_call 149; refine (size_as _ _ _ hu h).mono ?_; rintro e w' ⟨rfl, rfl⟩)
  go_ret3
  exact ⟨rfl, rfl⟩

set_option maxHeartbeats 400000 in
theorem split_sub (b : Nat) (u : Int) (w : World) (hu : Hid (u = b)) (h : U64 u) (h1 : 0 < szI u) (h2 : szI u < 4503599627370496) :
    Calls Tryz.prog 110 #[.float .f64 b] w fun e w' => e = .returned (.tuple #[.int .i64 (if sgB u then -szI u else szI u), .int .i64 (-1074), .bool true]) ∧ w' = w := by
  cases hs : sgB u
  all_goals
    simp only [Bool.false_eq_true, if_true, if_false]
    go_enter Tryz.func110, Tryz.ntmps110
    go_wp2_with (first | (go_at_call 149; refine (size_as _ _ _ hu h).mono ?_; rintro e w' ⟨rfl, rfl⟩) | (go_at_call 150; refine (signed_as _ _ _ hu h).mono ?_; rintro e w' ⟨rfl, rfl⟩))
    go_ret3
    exact ⟨rfl, rfl⟩

set_option maxHeartbeats 400000 in
theorem split_normal (b : Nat) (u m : Int) (w : World) (hu : Hid (u = b)) (h : U64 u) (h1 : 4503599627370496 ≤ szI u) (h2 : szI u < 9218868437227405312)
    (hm : bits .or .u64 (bits .and .u64 (szI u) 4503599627370495) 4503599627370496 = m) (hm0 : 4503599627370496 ≤ m) (hm1 : m < 9007199254740992) :
    Calls Tryz.prog 110 #[.float .f64 b] w fun e w' => e = .returned (.tuple #[.int .i64 (if sgB u then -m else m), .int .i64 (szI u / 4503599627370496 - 1 + -1074), .bool true]) ∧ w' = w := by
  cases hs : sgB u
  all_goals
    simp only [Bool.false_eq_true, if_true, if_false]
    go_enter Tryz.func110, Tryz.ntmps110
    go_wp2_with (first | (go_at_call 149; refine (size_as _ _ _ hu h).mono ?_; rintro e w' ⟨rfl, rfl⟩) | (go_at_call 150; refine (signed_as _ _ _ hu h).mono ?_; rintro e w' ⟨rfl, rfl⟩))
    go_ret3
    exact ⟨rfl, rfl⟩

theorem split_as (b : Nat) (u : Int) (w : World) (hu : Hid (u = b)) (h : U64 u) :
    Calls Tryz.prog 110 #[.float .f64 b] w fun e w' => e = .returned (.tuple #[.int .i64 (splM u), .int .i64 (splE u), .bool (splOk u)]) ∧ w' = w := by
  have hlo := szI_lo u
  have hhi := szI_hi u
  by_cases h1 : szI u < 9218868437227405312
  · have e1 : splOk u = true := by simp [splOk, h1]
    by_cases h2 : szI u = 0
    · have e2 : splM u = 0 := by unfold splM magI; rw [h2]; simp
      have e3 : splE u = 0 := by unfold splE; rw [h2]; simp
      rw [e1, e2, e3]; exact split_zero b u w hu h h2
    · by_cases h3 : szI u < 4503599627370496
      · have e2 : splM u = if sgB u then -szI u else szI u := by unfold splM magI; rw [e1, if_pos h3]; rfl
        have e3 : splE u = -1074 := by unfold splE plcI; simp [e1, h2, h3]
        rw [e1, e2, e3]; exact split_sub b u w hu h (by omega) h3
      · have e2 : splM u = if sgB u then -(4503599627370496 + szI u % 4503599627370496) else 4503599627370496 + szI u % 4503599627370496 := by unfold splM magI; rw [e1, if_neg h3]; rfl
        have e3 : splE u = szI u / 4503599627370496 - 1 + -1074 := by unfold splE plcI; simp [e1, h2, h3]; omega
        rw [e1, e2, e3]
        exact split_normal b u _ w hu h (by omega) h1 (by rw [and_mask52 hlo (by omega), or_hidden (by omega) (by omega)]) (by omega) (by omega)
  · have e1 : splOk u = false := by simp [splOk, h1]
    have e2 : splM u = 0 := by simp [splM, e1]
    have e3 : splE u = 0 := by simp [splE, e1]
    rw [e1, e2, e3]; exact split_no b u w hu h (by omega)
end Go.Proofs.YtiiajhomdpfafaaGreatDoor
namespace Go.Proofs.YtiiajhomdpfafaaGreatDoor

theorem nearR_scale {M : Nat} (h0 : M ≠ 0) (k : Nat) (p : Int) : nearR (M * 2 ^ k) (p - k) = nearR M p := by
  have hlog : (M * 2 ^ k).log2 = M.log2 + k := by
    have a := Nat.log2_self_le h0
    have b : M < 2 ^ (M.log2 + 1) := Nat.lt_log2_self
    have hp := Nat.two_pow_pos k
    refine (Nat.log2_eq_iff (by have := Nat.mul_pos (show 0 < M by omega) hp; omega)).2 ⟨?_, ?_⟩
    · rw [Nat.pow_add]; exact Nat.mul_le_mul_right _ a
    · rw [show M.log2 + k + 1 = (M.log2 + 1) + k by omega, Nat.pow_add]; exact Nat.mul_lt_mul_of_pos_right b hp
  have hL : lastP (M * 2 ^ k) (p - k) = lastP M p := by unfold lastP; rw [hlog]; congr 1; omega
  unfold nearR
  rw [hL]
  generalize lastP M p = L
  congr 2
  by_cases hc : p ≤ L
  · have e1 : (p - (k : Int) - L).toNat = 0 := by omega
    have e2 : (p - L).toNat = 0 := by omega
    have e3 : (L - (p - (k : Int))).toNat = (L - p).toNat + k := by omega
    rw [e1, e2, e3, Nat.pow_zero, Nat.mul_one, Nat.mul_one, rne_scale]
  · obtain ⟨q, hq⟩ : ∃ q : Nat, p = L + q := ⟨(p - L).toNat, by omega⟩
    have e2 : (p - L).toNat = q := by omega
    have e4 : (L - p).toNat = 0 := by omega
    rw [e2, e4, rne_zero]
    by_cases hk : k ≤ q
    · have e1 : (p - (k : Int) - L).toNat = q - k := by omega
      have e3 : (L - (p - (k : Int))).toNat = 0 := by omega
      rw [e1, e3, rne_zero, Nat.mul_assoc, ← Nat.pow_add]; congr 2; omega
    · have e1 : (p - (k : Int) - L).toNat = 0 := by omega
      have e3 : (L - (p - (k : Int))).toNat = 0 + (k - q) := by omega
      rw [e1, e3, Nat.pow_zero, Nat.mul_one, show M * 2 ^ k = (M * 2 ^ q) * 2 ^ (k - q) by rw [Nat.mul_assoc, ← Nat.pow_add]; congr 2; omega, rne_scale, rne_zero]

end Go.Proofs.YtiiajhomdpfafaaGreatDoor
namespace Go.Proofs.YtiiajhomdpfafaaGreatDoor

def vI (b : Nat) : Int := if b / 9223372036854775808 % 2 == 1 then -(V (b % 9223372036854775808) : Int) else (V (b % 9223372036854775808) : Int)
def sgZ (s : Bool) (n : Nat) : Int := if s then -(n : Int) else (n : Int)
theorem sgZ_mul (s : Bool) (n k : Nat) : sgZ s (n * k) = sgZ s n * k := by
  unfold sgZ; cases s <;> simp [Int.neg_mul]
theorem signed_eq (s : Bool) (m k : Nat) : Ieee.signed s m k = sgZ s (m * 2 ^ k) := by
  unfold Ieee.signed sgZ; rw [Nat.shiftLeft_eq]
theorem word_true (r : Nat) : Ieee.double.word true r = 9223372036854775808 + r := rfl
theorem word_false (r : Nat) : Ieee.double.word false r = r := rfl
def addR (s t : Bool) (T : Int) : Nat := if T = 0 then (if s && t then 9223372036854775808 else 0) else joinN T (-1074)
theorem sum_write (s t : Bool) (m n p q : Nat) :
    ((Ieee.Datum.number s m (-1074 + (p : Int))).sum (.number t n (-1074 + (q : Int)))).map Ieee.double.write = some (addR s t (sgZ s (m * 2 ^ p) + sgZ t (n * 2 ^ q))) := by
  obtain ⟨e, he⟩ : ∃ e, min p q = e := ⟨_, rfl⟩
  have hb : min (-1074 + (p : Int)) (-1074 + (q : Int)) = -1074 + (e : Int) := by omega
  have h1 : (-1074 + (p : Int) - (-1074 + (e : Int))).toNat = p - e := by omega
  have h2 : (-1074 + (q : Int) - (-1074 + (e : Int))).toNat = q - e := by omega
  obtain ⟨T, hT⟩ : ∃ T, sgZ s (m * 2 ^ (p - e)) + sgZ t (n * 2 ^ (q - e)) = T := ⟨_, rfl⟩
  have hTT : sgZ s (m * 2 ^ p) + sgZ t (n * 2 ^ q) = T * ((2 ^ e : Nat) : Int) := by
    rw [← hT, Int.add_mul, ← sgZ_mul, ← sgZ_mul, Nat.mul_assoc, Nat.mul_assoc, ← Nat.pow_add, ← Nat.pow_add, show p - e + e = p by omega, show q - e + e = q by omega]
  have key : ((Ieee.Datum.number s m (-1074 + (p : Int))).sum (.number t n (-1074 + (q : Int)))).map Ieee.double.write = some (Ieee.double.nearest (if T = 0 then s && t else decide (T < 0)) T.natAbs (-1074 + (e : Int))) := by
    show some (Ieee.double.write (.number (if Ieee.signed s m (-1074 + (p : Int) - min (-1074 + (p : Int)) (-1074 + (q : Int))).toNat + Ieee.signed t n (-1074 + (q : Int) - min (-1074 + (p : Int)) (-1074 + (q : Int))).toNat = 0 then s && t else decide (Ieee.signed s m (-1074 + (p : Int) - min (-1074 + (p : Int)) (-1074 + (q : Int))).toNat + Ieee.signed t n (-1074 + (q : Int) - min (-1074 + (p : Int)) (-1074 + (q : Int))).toNat < 0)) (Ieee.signed s m (-1074 + (p : Int) - min (-1074 + (p : Int)) (-1074 + (q : Int))).toNat + Ieee.signed t n (-1074 + (q : Int) - min (-1074 + (p : Int)) (-1074 + (q : Int))).toNat).natAbs (min (-1074 + (p : Int)) (-1074 + (q : Int))))) = _
    rw [hb, h1, h2, signed_eq, signed_eq, hT]
    rfl
  rw [key, hTT]
  have hp : (0 : Int) < ((2 ^ e : Nat) : Int) := by have := Nat.two_pow_pos e; omega
  unfold addR
  by_cases h0 : T = 0
  · subst h0
    rw [if_pos rfl, Int.zero_mul, if_pos rfl]
    show some (Ieee.double.nearest (s && t) 0 _) = _
    rw [nearest_zero]
    cases s <;> cases t <;> rfl
  · rw [if_neg h0]
    have h3 : T * ((2 ^ e : Nat) : Int) ≠ 0 := Int.mul_ne_zero h0 (by omega)
    rw [if_neg h3, nearest_eq _ (by omega)]
    have h4 : nearR (T * ((2 ^ e : Nat) : Int)).natAbs (-1074) = nearR T.natAbs (-1074 + (e : Int)) := by
      have := nearR_scale (M := T.natAbs) (by omega) e (-1074 + (e : Int))
      rw [show -1074 + (e : Int) - (e : Int) = -1074 by omega] at this
      rw [Int.natAbs_mul, Int.natAbs_natCast]; exact this
    unfold joinN
    rw [if_neg h3, h4]
    have h5 : T * ((2 ^ e : Nat) : Int) < 0 ↔ T < 0 := by
      constructor
      · intro h
        by_cases h6 : T < 0
        · exact h6
        · have := Int.mul_nonneg (by omega : 0 ≤ T) (by omega : (0 : Int) ≤ ((2 ^ e : Nat) : Int)); omega
      · intro h; exact Int.mul_neg_of_neg_of_pos h hp
    by_cases h6 : T < 0
    · rw [if_pos (h5.2 h6)]
      simp only [h6, decide_true]
      rw [word_true]
    · rw [if_neg (fun h => h6 (h5.1 h))]
      simp only [h6, decide_false]
      rw [word_false]
theorem vI_eq (b : Nat) : vI b = sgZ (b / 9223372036854775808 % 2 == 1) (mg (b % 9223372036854775808) * 2 ^ pl (b % 9223372036854775808)) := rfl
theorem sub_num {x y : Nat} (hx : x % 9223372036854775808 < 9218868437227405312) (hy : y % 9223372036854775808 < 9218868437227405312) :
    floatBits .sub .f64 x y = some (addR (x / 9223372036854775808 % 2 == 1) (!(y / 9223372036854775808 % 2 == 1)) (vI x - vI y)) := by
  show ((Ieee.double.read x).sum (Ieee.double.read y).opposite).map Ieee.double.write = _
  rw [read_num hx, read_num hy]
  show ((Ieee.Datum.number _ _ _).sum (Ieee.Datum.number _ _ _)).map Ieee.double.write = _
  rw [sum_write, vI_eq, vI_eq, Int.sub_eq_add_neg]
  congr 3
  unfold sgZ
  cases (y / 9223372036854775808 % 2 == 1) <;> simp

end Go.Proofs.YtiiajhomdpfafaaGreatDoor
namespace Go.Proofs.YtiiajhomdpfafaaGreatDoor

def wrd (s : Bool) (r : Nat) : Nat := if s then 9223372036854775808 + r else r
theorem word_eq (s : Bool) (r : Nat) : Ieee.double.word s r = wrd s r := by cases s <;> rfl
def NumB (x : Nat) : Prop := x % 9223372036854775808 < 9218868437227405312
def Rep (A : Int) : Prop := ∃ r, r < 9218868437227405312 ∧ A.natAbs = V r
theorem Rep.neg {A : Int} (h : Rep A) : Rep (-A) := by obtain ⟨r, a, b⟩ := h; exact ⟨r, a, by rw [Int.natAbs_neg]; exact b⟩
end Go.Proofs.YtiiajhomdpfafaaGreatDoor
namespace Go.Proofs.YtiiajhomdpfafaaGreatDoor

end Go.Proofs.YtiiajhomdpfafaaGreatDoor
namespace Go.Proofs.YtiiajhomdpfafaaGreatDoor
open Go.RowKit

theorem hide {p : Prop} (h : p) : Hid p := h
theorem unhide {p : Prop} (h : Hid p) : p := h

def RowIs (w : World) (g n M : Nat) : Prop := ∀ i, i < n → w.cell? ⟨g, i, none⟩ = some (.int .u64 (dgt M i : Int))

theorem ret_slice {g a b c : Nat} (h : a = b) : Ending.returned (.slice (some ⟨g, 0, none⟩) a c) = .returned (.slice (some ⟨g, 0, none⟩) b c) := by rw [h]

set_option maxHeartbeats 400000 in
theorem trim_row (g n c M : Nat) (w : World) (hrow : RowIs w g n M) (hM : M < 2 ^ (32 * n)) (hn : n ≤ c) (hb : n ≤ 4611686018427387904) :
    Calls Tryz.prog 167 #[.slice (some ⟨g, 0, none⟩) n c] w fun e w' => e = .returned (.slice (some ⟨g, 0, none⟩) (nd M) c) ∧ w' = w := by
  have HR := hide hrow
  have HM := hide hM
  clear hrow hM
  go_enter Tryz.func167, Tryz.ntmps167
  go_wp2
  go_loop [3] (fun t => ∃ k : Nat, k ≤ n ∧ t = .int .i64 k ∧ Hid (M < 2 ^ (32 * k))) (fun t => (intOf t).toNat)
  case atStart => exact ⟨n, Nat.le_refl _, rfl, HM⟩
  case round =>
    obtain ⟨k, hk, rfl, HK⟩ := hrel
    cases k with
    | zero =>
      go_wp2
      go_ret
      exact ⟨ret_slice (by have h1 := HK.out; rw [Nat.mul_zero, Nat.pow_zero] at h1; rw [show M = 0 by omega]; rfl), rfl⟩
    | succ j =>
      have hc := unhide HR j (by omega)
      by_cases h0 : dgt M j = 0
      · rw [h0] at hc
        go_wp2
        go_round
        case rel => exact ⟨j, by omega, rfl, trim_step HK.out h0⟩
        case measure => simp [intOf]
      · have H0 := hide h0
        have h1 : ((dgt M j : Int) == 0) = false := by simpa using h0
        clear h0
        generalize (dgt M j : Int) = q at h1 hc
        go_wp2
        go_ret
        exact ⟨ret_slice (trim_end HK.out H0.out).symm, rfl⟩

def DN (w : World) (v : Value) (N : Nat) : Prop :=
  (N = 0 ∧ ∃ p c, v = .slice p 0 c) ∨ (N ≠ 0 ∧ ∃ g c, v = .slice (some ⟨g, 0, none⟩) (nd N) c ∧ nd N ≤ c ∧ g < w.heap.size ∧ RowIs w g (nd N) N)

theorem RowIs.mono {w : World} {g n m M : Nat} (h : RowIs w g n M) (hm : m ≤ n) : RowIs w g m M := fun i hi => h i (by omega)
theorem RowIs.below {w w' : World} {g n M : Nat} (h : RowIs w g n M) (hg : g < w.heap.size) (hb : Below w.heap.size w w') : RowIs w' g n M :=
  fun i hi => (hb.cell (p := ⟨g, i, none⟩) hg).trans (h i hi)
theorem DN.below {w w' : World} {v : Value} {N : Nat} (h : DN w v N) (hb : Below w.heap.size w w') : DN w' v N := by
  rcases h with h | ⟨h0, g, c, hv, hc, hg, hr⟩
  · exact Or.inl h
  · exact Or.inr ⟨h0, g, c, hv, hc, Nat.lt_of_lt_of_le hg hb.size, hr.below hg hb⟩
theorem dn_mk {w : World} {g c n M : Nat} (hr : RowIs w g n M) (hM : M < 2 ^ (32 * n)) (hc : n ≤ c) (hg : g < w.heap.size) : DN w (.slice (some ⟨g, 0, none⟩) (nd M) c) M := by
  by_cases h0 : M = 0
  · exact Or.inl ⟨h0, some ⟨g, 0, none⟩, c, by rw [h0]; rfl⟩
  · have := nd_mono hM
    exact Or.inr ⟨h0, g, c, rfl, by omega, hg, hr.mono this⟩

theorem row_two (n : Nat) (w : World) (h : n < 18446744073709551616) : RowIs (w.alloc (.cells #[.int .u64 ((n : Int) % 4294967296), .int .u64 ((n : Int) / 4294967296)] 48)) w.heap.size 2 n := by
  intro i hi
  have e0 : (dgt n 0 : Int) = (n : Int) % 4294967296 := by unfold dgt; rw [Nat.mul_zero, Nat.pow_zero, Nat.div_one]; omega
  have e1 : (dgt n 1 : Int) = (n : Int) / 4294967296 := by unfold dgt; rw [show (2 : Nat) ^ (32 * 1) = 4294967296 from rfl]; omega
  match i, hi with
  | 0, _ => rw [e0]; simp
  | 1, _ => rw [e1]; simp

def From (B : Nat) (v : Value) : Prop := ∀ a l c, v = .slice (some a) l c → B ≤ a.block
theorem from_nil (B : Nat) : From B (.slice none 0 0) := fun a l c h => by cases h
theorem from_at (B g l c : Nat) (h : B ≤ g) : From B (.slice (some ⟨g, 0, none⟩) l c) := fun a l' c' e => by cases e; exact h
theorem DN.set {w : World} {v : Value} {N B : Nat} (h : DN w v N) (hf : From B v) {a : Addr} (ha : a.block < B) (x : Value) : DN (w.setCell a x) v N := by
  rcases h with h | ⟨h0, g, c, rfl, hc, hg, hr⟩
  · exact Or.inl h
  · have := hf _ _ _ rfl
    refine Or.inr ⟨h0, g, c, rfl, hc, by simpa using hg, fun i hi => ?_⟩
    exact (World.cell?_of_block (a := ⟨g, i, none⟩) (Below.heap_setCell w a x g (by have h9 : B ≤ g := this; omega))).trans (hr i hi)

set_option maxHeartbeats 400000 in
theorem digits_new (n : Nat) (w : World) (h : n < 18446744073709551616) :
    Calls Tryz.prog 135 #[.int .u64 n] w fun e w' => ∃ v, e = .returned v ∧ DN w' v n ∧ From w.heap.size v ∧ Below w.heap.size w w' := by
  have HR := hide (row_two n w h)
  have HD := hide (dn_mk HR.out (by omega) (Nat.le_refl 2) (by simp))
  go_enter Tryz.func135, Tryz.ntmps135
  go_wp2_with fail
  refine (trim_row _ 2 2 n _ HR.out (by omega) (Nat.le_refl 2) (by omega)).mono ?_
  rintro e w' ⟨rfl, rfl⟩
  go_wp2_with fail
  go_ret
  exact ⟨_, rfl, HD.out, from_at _ _ _ _ (Nat.le_refl _), (Below.refl _ _).alloc (Nat.le_refl _) _⟩
theorem digits_as (u : Int) (n : Nat) (w : World) (hu : Hid (u = n)) (h : n < 18446744073709551616) :
    Calls Tryz.prog 135 #[.int .u64 u] w fun e w' => ∃ v, e = .returned v ∧ DN w' v n ∧ From w.heap.size v ∧ Below w.heap.size w w' := by
  rw [hu.out]; exact digits_new n w h

theorem bl_le64 {x : Nat} (h : x < 18446744073709551616) : bl x ≤ 64 := by
  unfold bl
  by_cases h0 : x = 0
  · rw [if_pos h0]; omega
  · rw [if_neg h0]; have := (Nat.log2_lt h0).2 (show x < 2 ^ 64 from h); omega

set_option maxHeartbeats 400000 in
theorem len_nil (p : Option Addr) (c : Nat) (w : World) :
    Calls Tryz.prog 168 #[.slice p 0 c] w fun e w' => e = .returned (.int .i64 0) ∧ w' = w := by
  go_enter Tryz.func168, Tryz.ntmps168
  go_wp2
  go_ret
  exact ⟨rfl, rfl⟩

set_option maxHeartbeats 400000 in
theorem len_row (g n c N : Nat) (w : World) (hN : N ≠ 0) (hn : Hid (n + 1 = nd N)) (hb : n ≤ 100000000) (hcell : w.cell? ⟨g, n, none⟩ = some (.int .u64 (dgt N n : Int))) :
    Calls Tryz.prog 168 #[.slice (some ⟨g, 0, none⟩) (n + 1 : Nat) c] w fun e w' => e = .returned (.int .i64 (bl N : Int)) ∧ w' = w := by
  have HB : Hid (bl N = 32 * n + bl (dgt N n)) := by
    have := bl_top hN
    rw [← hn.out, Nat.add_sub_cancel] at this; exact this
  have hd := dgt_lt N n
  generalize dgt N n = d at hcell HB hd
  rw [HB.out]
  clear HB
  go_enter Tryz.func168, Tryz.ntmps168
  go_wp2
  go_loop [3, 4] (fun s t => ∃ a x : Nat, s = .int .i64 a ∧ t = .int .u64 x ∧ x < 4294967296 ∧ Hid (a + bl x = 32 * n + bl d)) (fun _ t => (intOf t).toNat)
  case atStart => exact ⟨32 * n, d, by go_num, rfl, hd, rfl⟩
  case round =>
    obtain ⟨a, x, rfl, rfl, hx, HA⟩ := hrel
    have ha : a ≤ 3200000064 := by
      have h1 := HA.out
      have h2 : bl d ≤ 64 := bl_le64 (by omega)
      omega
    by_cases h0 : x = 0
    · subst h0
      go_wp2
      go_ret
      exact ⟨ret_int (by have := HA.out; rw [show bl 0 = 0 from rfl] at this; omega), rfl⟩
    · have HB := hide (bl_half h0)
      have h1 : 0 < x := by omega
      clear h0
      go_wp2
      go_round
      case rel => exact ⟨a + 1, x / 2, by go_num, by go_num, by omega, by have h2 := HA.out; rw [HB.out] at h2; show _ = _; omega⟩
      case measure => simp [intOf]; omega

theorem len_any (v : Value) (N : Nat) (w : World) (h : DN w v N) (hb : nd N ≤ 100000000) :
    Calls Tryz.prog 168 #[v] w fun e w' => e = .returned (.int .i64 (bl N : Int)) ∧ w' = w := by
  rcases h with ⟨h0, p, c, rfl⟩ | ⟨h0, g, c, rfl, hc, hg, hr⟩
  · rw [h0]; exact len_nil p c w
  · have h1 := nd_pos h0
    obtain ⟨n, hn⟩ : ∃ n, n + 1 = nd N := ⟨nd N - 1, by omega⟩
    rw [← hn]
    exact len_row g n c N w h0 hn (by omega) (hr n (by omega))

set_option maxHeartbeats 400000 in
theorem digit_out (p : Option Addr) (n c : Nat) (i : Int) (w : World) (hi : i < 0 ∨ (n : Int) ≤ i) :
    Calls Tryz.prog 166 #[.slice p n c, .int .i64 i] w fun e w' => e = .returned (.int .u64 0) ∧ w' = w := by
  by_cases h : i < 0
  · go_enter Tryz.func166, Tryz.ntmps166
    go_wp2
    go_ret
    exact ⟨rfl, rfl⟩
  · have h2 : (n : Int) ≤ i := by omega
    go_enter Tryz.func166, Tryz.ntmps166
    go_wp2
    go_ret
    exact ⟨rfl, rfl⟩

set_option maxHeartbeats 400000 in
theorem digit_in (g n c k : Nat) (q : Int) (w : World) (hk : k < n) (hcell : w.cell? ⟨g, k, none⟩ = some (.int .u64 q)) :
    Calls Tryz.prog 166 #[.slice (some ⟨g, 0, none⟩) n c, .int .i64 k] w fun e w' => e = .returned (.int .u64 q) ∧ w' = w := by
  go_enter Tryz.func166, Tryz.ntmps166
  go_wp2
  go_ret
  exact ⟨rfl, rfl⟩

theorem digit_any (v : Value) (N k : Nat) (w : World) (h : DN w v N) :
    Calls Tryz.prog 166 #[v, .int .i64 k] w fun e w' => e = .returned (.int .u64 (dgt N k : Int)) ∧ w' = w := by
  rcases h with ⟨h0, p, c, rfl⟩ | ⟨h0, g, c, rfl, hc, hg, hr⟩
  · rw [h0, dgt_zero]; exact digit_out p 0 c k w (by omega)
  · by_cases hk : k < nd N
    · exact digit_in g (nd N) c k _ w hk (hr k hk)
    · rw [dgt_past (by omega)]; exact digit_out _ _ c k w (by omega)

end Go.Proofs.YtiiajhomdpfafaaGreatDoor
namespace Go.Proofs.YtiiajhomdpfafaaGreatDoor
open Go.RowKit

theorem turned {P : Program} {f : Nat} {args : Array Value} {w : World} {Q : Ending → Prop} (h : Calls P f args w fun e w' => Q e ∧ w' = w) : Calls P f args w fun e w' => Q e ∧ w = w' :=
  h.mono fun _ _ ⟨a, b⟩ => ⟨a, b.symm⟩
theorem own_below {w w' : World} {B e size n : Nat} {v : Value} {xs : List Value} (h : w.ownsRow B e size v n xs) (hb : Below w.heap.size w w') : w'.ownsRow B e size v n xs := by
  refine ⟨h.1, ?_⟩
  rcases h.2 with hn | ⟨g, cap, cur, rfl, hg, hgg, rest⟩
  · exact .inl hn
  · exact .inr ⟨g, cap, cur, rfl, hg, by rw [hb.block g (Array.getElem?_eq_some_iff.1 hgg).1]; exact hgg, rest⟩

theorem getD_some {l : List Nat} {i : Nat} (hi : i < l.length) : l[i]? = some (l.getD i 0) := by simp [List.getD, List.getElem?_eq_getElem hi]
structure Src (w : World) (p : Option Addr) (b off : Nat) (xs : List Nat) : Prop where
  at_ : 0 < xs.length → p = some ⟨b, off, none⟩
  lt : 0 < xs.length → b < w.heap.size
  cell : ∀ j, j < xs.length → w.cell? ⟨b, off + j, none⟩ = some (.float .f64 (xs.getD j 0))
theorem Src.below {w w' : World} {p : Option Addr} {b off : Nat} {xs : List Nat} (h : Src w p b off xs) (hb : Below w.heap.size w w') : Src w' p b off xs :=
  ⟨h.at_, fun hx => Nat.lt_of_lt_of_le (h.lt hx) hb.size, fun j hj => (hb.cell (p := ⟨b, off + j, none⟩) (h.lt (by omega))).trans (h.cell j hj)⟩

structure OwnF (w : World) (B t : Nat) (f : Nat → Value) (v : Value) (xs : List Nat) : Prop where
  own : w.ownsRow B t 1 v xs.length (xs.map f)
theorem OwnF.below {w w' : World} {B t : Nat} {f : Nat → Value} {v : Value} {xs : List Nat} (h : OwnF w B t f v xs) (hb : Below w.heap.size w w') : OwnF w' B t f v xs := ⟨own_below h.own hb⟩
theorem OwnF.shape {w : World} {B t : Nat} {f : Nat → Value} {v : Value} {xs : List Nat} (h : OwnF w B t f v xs) :
    ∃ p g c, v = .slice p xs.length c ∧ (0 < xs.length → p = some ⟨g, 0, none⟩ ∧ B ≤ g ∧ g < w.heap.size) ∧ ∀ j, j < xs.length → w.cell? ⟨g, j, none⟩ = some (f (xs.getD j 0)) := by
  rcases h.own.2 with ⟨hv, hn⟩ | ⟨g, cap, cur, hv, hb, hg, _⟩
  · exact ⟨none, 0, 0, by rw [hv, hn], fun h0 => by omega, fun j hj => by omega⟩
  · refine ⟨some ⟨g, 0, none⟩, g, cap, hv, fun _ => ⟨rfl, hb, (Array.getElem?_eq_some_iff.1 hg).1⟩, fun j hj => ?_⟩
    have h2 := h.own
    rw [hv] at h2
    rw [h2.cellAt j (by omega), List.getElem?_map, getD_some hj]; rfl
end Go.Proofs.YtiiajhomdpfafaaGreatDoor
namespace Go.Proofs.YtiiajhomdpfafaaGreatDoor
open Go.RowKit

def finB (u : Int) : Bool := decide (szI u < 9218868437227405312)
end Go.Proofs.YtiiajhomdpfafaaGreatDoor
namespace Go.Proofs.YtiiajhomdpfafaaGreatDoor
open Go.RowKit

set_option maxHeartbeats 400000 in
theorem isNaN_math (b : Nat) (w : World) (h : U64 b) :
    Calls Tryz.prog 108 #[.float .f64 b] w fun e w' => e = .returned (.bool (nanB b)) ∧ w' = w := by
  have h1 : (FloatKind.f64.format.order b b != some .eq) = nanB b := by rw [bne, eq_self h, Bool.not_not]
  clear h
  go_enter Tryz.func108, Tryz.ntmps108
  go_wp2
  go_ret
  exact ⟨rfl, rfl⟩

theorem compare_gt_iff (x y : Int) : (compare x y == .gt) = decide (y < x) := by
  show (compareOfLessAndEq x y == .gt) = _
  unfold compareOfLessAndEq
  by_cases a : x < y
  · have : ¬ y < x := by omega
    simp [a, this]
  · by_cases b : x = y
    · simp [b]
    · have : y < x := by omega
      simp [a, b, this]
theorem gt_rank {a b : Nat} (ha : U64 a) (hb : U64 b) (hna : nanB a = false) (hnb : nanB b = false) : (FloatKind.f64.format.order a b == some .gt) = decide (rankI b < rankI a) := by
  rw [order_rank (by have := ha.2; omega) (by have := hb.2; omega) hna hnb, ← compare_gt_iff]; rfl

theorem rkp_nan {r : Nat} (h : r ≤ 9218868437227405312) : nanB (r : Int) = false := by unfold nanB szI; rw [decide_eq_false_iff_not]; omega
theorem rkp_rank {r : Nat} (h : r ≤ 9218868437227405312) : rankI (r : Int) = r := by
  unfold rankI
  have hs : sgB (r : Int) = false := by unfold sgB; rw [decide_eq_false_iff_not]; omega
  rw [rkp_nan h, hs]
  show szI (r : Int) = r
  unfold szI; omega
theorem szN (x : Nat) : szI (x : Int) = ((x % 9223372036854775808 : Nat) : Int) := by unfold szI; omega
theorem inf_gt {x : Nat} (h : nanB (x : Int) = false) : (FloatKind.f64.format.order (x % 9223372036854775808) 9218868437227405311 == some .gt) = !finB (x : Int) := by
  have h1 := nan_false h
  have e : finB (x : Int) = decide (x % 9223372036854775808 < 9218868437227405312) := by
    unfold finB; rw [szN]; exact decide_eq_decide.2 (by omega)
  rw [e]
  generalize x % 9223372036854775808 = a at *
  rw [gt_rank (u64_of_nat (by omega)) (u64_of_nat (by omega)) (rkp_nan h1) (rkp_nan (r := 9218868437227405311) (by omega)), rkp_rank h1, rkp_rank (r := 9218868437227405311) (by omega)]
  by_cases c : a < 9218868437227405312
  · rw [decide_eq_true c]; exact decide_eq_false (by omega)
  · rw [decide_eq_false c]; exact decide_eq_true (by omega)

theorem fin_nan {x : Nat} (h : nanB (x : Int) = true) : finB (x : Int) = false := by
  unfold nanB at h; unfold finB
  have := of_decide_eq_true h
  exact decide_eq_false (by omega)

set_option maxHeartbeats 400000 in
theorem abs_math (x : Nat) (w : World) (h : U64 x) :
    Calls Tryz.prog 148 #[.float .f64 x] w fun e w' => e = .returned (.float .f64 (x % 9223372036854775808)) ∧ w' = w := by
  have h1 := call_bits
  have h2 := call_frombits
  have h3 := andNot_sz h
  have h4 : (szI (x : Int)).toNat = x % 9223372036854775808 := by rw [szN]; rfl
  clear h
  go_enter Tryz.func148, Tryz.ntmps148
  go_wp2
  go_ret
  exact ⟨rfl, rfl⟩

set_option maxHeartbeats 400000 in
theorem isInf_both (x : Nat) (g : Bool) (w : World) (h : U64 x) (hg : (FloatKind.f64.format.order (x % 9223372036854775808) 9218868437227405311 == some .gt) = g) :
    Calls Tryz.prog 109 #[.float .f64 x, .int .i64 0] w fun e w' => e = .returned (.bool g) ∧ w' = w := by
  have H := hideS fun w => abs_math x w h
  clear h
  generalize x % 9223372036854775808 = a at *
  go_enter Tryz.func109, Tryz.ntmps109
  go_wp2_with fail
  refine (H.out _).mono ?_
  rintro e w' ⟨rfl, rfl⟩
  go_wp2_with fail
  go_ret
  exact ⟨rfl, rfl⟩

end Go.Proofs.YtiiajhomdpfafaaGreatDoor
namespace Go.Proofs.YtiiajhomdpfafaaGreatDoor
open Go.RowKit

def nanAns (x y : Nat) (w : World) : Nat := (Question.nanBits .f64 x y).cut (w.tape w.drawn (.nanBits .f64 x y))
theorem nanAns_nan (x y : Nat) (w : World) : nanB (nanAns x y w) = true ∧ nanAns x y w < 18446744073709551616 := by
  unfold nanAns
  generalize w.tape w.drawn (.nanBits .f64 x y) = t
  show nanB (((t % 2) * 2 ^ 63 + 0x7ff0000000000000 + 1 + (t / 2) % (2 ^ 52 - 1) : Nat) : Int) = true ∧ ((t % 2) * 2 ^ 63 + 0x7ff0000000000000 + 1 + (t / 2) % (2 ^ 52 - 1) : Nat) < _
  have h1 : t % 2 < 2 := Nat.mod_lt _ (by decide)
  have h2 : (t / 2) % (2 ^ 52 - 1) < 2 ^ 52 - 1 := Nat.mod_lt _ (by decide)
  generalize t % 2 = a at *
  generalize (t / 2) % (2 ^ 52 - 1) = b at *
  unfold nanB szI
  refine ⟨?_, by omega⟩
  rw [decide_eq_true_eq]; omega
theorem run_arith_nan {P : Program} (op : BinOp) (ho : op = .add ∨ op = .sub ∨ op = .mul ∨ op = .quo) (t : TypeId) (x y : Nat) (h : floatBits op .f64 x y = none) (w : World) : (binOp op t (.float .f64 x) (.float .f64 y)).run P w = .ok (.float .f64 (nanAns x y w)) w.drew := by
  rcases ho with rfl | rfl | rfl | rfl <;> unfold floatBits at h <;> simp only at h <;> simp [binOp, Op.floatArith, h, Question.forced, nanAns]
def Ag (o : Option Nat) (b : Nat) : Prop := match o with | some r => b = r | none => nanB b = true ∧ b < 18446744073709551616
theorem ag_some {r b : Nat} (h : Ag (some r) b) : b = r := h
theorem ag_none {b : Nat} (h : Ag none b) : nanB b = true ∧ b < 18446744073709551616 := h
end Go.Proofs.YtiiajhomdpfafaaGreatDoor
namespace Go.Proofs.YtiiajhomdpfafaaGreatDoor
open Go.RowKit

theorem run_op_ag (op : BinOp) (ho : op = .add ∨ op = .sub ∨ op = .mul ∨ op = .quo) (t : TypeId) (a c : Nat) (w : World) : ∃ r, (∃ q, (binOp op t (.float .f64 a) (.float .f64 c)).run Tryz.prog w = .ok (.float .f64 r) (w.drewN q)) ∧ Ag (floatBits op .f64 a c) r := by
  cases h : floatBits op .f64 a c with
  | some r => exact ⟨r, ⟨0, run_float_arith (P := Tryz.prog) w op t .f64 a c r h⟩, rfl⟩
  | none => exact ⟨_, ⟨1, run_arith_nan (P := Tryz.prog) op ho t a c h w⟩, nanAns_nan a c w⟩
end Go.Proofs.YtiiajhomdpfafaaGreatDoor
namespace Go.Proofs.YtiiajhomdpfafaaGreatDoor
open Go.RowKit

theorem wrd_lt {s : Bool} {r : Nat} (h : r ≤ 9218868437227405312) : wrd s r < 18446744073709551616 := by unfold wrd; split <;> omega
theorem write_lt (d : Ieee.Datum) (h : ∀ s f, d ≠ .nan s f) : Ieee.double.write d < 18446744073709551616 := by
  cases d with
  | nan s f => exact absurd rfl (h s f)
  | infinity s => rw [show Ieee.double.write (.infinity s) = wrd s 9218868437227405312 by cases s <;> decide +kernel]; exact wrd_lt (Nat.le_refl _)
  | number s m i =>
    show Ieee.double.nearest s m i < _
    by_cases h0 : m = 0
    · rw [h0, nearest_zero, word_eq]; exact wrd_lt (Nat.zero_le _)
    · rw [nearest_eq s h0, word_eq]; exact wrd_lt (Nat.min_le_right _ _)
theorem sum_ok {a b d : Ieee.Datum} (h : a.sum b = some d) : ∀ s f, d ≠ .nan s f := by
  intro s f e
  subst e
  cases a <;> cases b <;> simp [Ieee.Datum.sum] at h
theorem product_ok {a b d : Ieee.Datum} (h : a.product b = some d) : ∀ s f, d ≠ .nan s f := by
  intro s f e
  subst e
  cases a <;> cases b <;> simp [Ieee.Datum.product] at h
theorem quotient_ok {a b d : Ieee.Datum} {k : Nat} (h : a.quotient k b = some d) : ∀ s f, d ≠ .nan s f := by
  intro s f e
  subst e
  cases a <;> cases b <;> simp [Ieee.Datum.quotient] at h
  split at h
  · split at h <;> cases h
  · cases h
theorem map_lt {o : Option Ieee.Datum} {r : Nat} (ho : ∀ d, o = some d → ∀ s f, d ≠ .nan s f) (h : o.map Ieee.double.write = some r) : r < 18446744073709551616 := by
  cases o with
  | none => cases h
  | some d =>
    have : Ieee.double.write d = r := Option.some.inj h
    rw [← this]; exact write_lt d (ho d rfl)
theorem float_lt {op : BinOp} (ho : op = .add ∨ op = .sub ∨ op = .mul ∨ op = .quo) {x y r : Nat} (h : floatBits op .f64 x y = some r) : r < 18446744073709551616 := by
  rcases ho with rfl | rfl | rfl | rfl
  · exact map_lt (o := (Ieee.double.read x).sum (Ieee.double.read y)) (fun d hd => sum_ok hd) h
  · exact map_lt (o := (Ieee.double.read x).sum (Ieee.double.read y).opposite) (fun d hd => sum_ok hd) h
  · exact map_lt (o := (Ieee.double.read x).product (Ieee.double.read y)) (fun d hd => product_ok hd) h
  · exact map_lt (o := (Ieee.double.read x).quotient 54 (Ieee.double.read y)) (fun d hd => quotient_ok hd) h
end Go.Proofs.YtiiajhomdpfafaaGreatDoor
namespace Go.Proofs.YtiiajhomdpfafaaGreatDoor
open Go.RowKit

instance (x : Nat) : Decidable (NumB x) := by unfold NumB; infer_instance
theorem sub_self {r : Nat} (h : NumB r) : floatBits .sub .f64 r r = some 0 := by
  rw [sub_num h h]
  unfold addR
  rw [if_pos (by omega)]
  cases (r / 9223372036854775808 % 2 == 1) <;> rfl
end Go.Proofs.YtiiajhomdpfafaaGreatDoor
namespace Go.Proofs.YtiiajhomdpfafaaGreatDoor
open Go.RowKit

theorem info_u64 : (Tryz.prog.info? 48).map (fun i => (i.zero, i.size, i.bytes)) = some (some (.int .u64 0), 1, 8) := by kernel_rfl

set_option maxHeartbeats 400000 in
theorem shiftUp_nil (p : Option Addr) (c : Nat) (n : Int) (w : World) :
    Calls Tryz.prog 169 #[.slice p 0 c, .int .i64 n] w fun e w' => e = .returned (.slice none 0 0) ∧ w' = w := by
  go_enter Tryz.func169, Tryz.ntmps169
  go_wp2
  go_ret
  exact ⟨rfl, rfl⟩

def Own (w : World) (b n M : Nat) : Prop := w.rowIs b 48 n (fun i => .int .u64 (dgt M i : Int))
theorem Own.row {w : World} {b n M : Nat} (h : Own w b n M) : RowIs w b n M := fun _ hi => h.cell hi
theorem own_made (w : World) (n : Nat) : Own (w.alloc (.cells (madeCells #[.int .u64 0] n) 48)) w.heap.size n 0 :=
  (World.rowIs_made w (.int .u64 0) n 48).congr (fun i _ => by rw [dgt_zero]; rfl)

theorem shift_step {w : World} {b L N q r k n D X : Nat} (h : Own w b L ((N % 2 ^ (32 * k)) * 2 ^ n)) (hn : n = 32 * q + r) (hr : r < 32) (hD : D = dgt N k) (hX : X = D * 2 ^ r) (_hL : k + q + 1 < L) :
    Own ((w.setCell ⟨b, k + q, none⟩ (.int .u64 ((dgt ((N % 2 ^ (32 * k)) * 2 ^ n) (k + q) : Int) + (X : Int) % 4294967296))).setCell ⟨b, k + q + 1, none⟩ (.int .u64 ((X : Int) / 4294967296))) b L ((N % 2 ^ (32 * (k + 1))) * 2 ^ n) := by
  have h2 := (h.set (k + q) (.int .u64 ((dgt ((N % 2 ^ (32 * k)) * 2 ^ n) (k + q) : Int) + (X : Int) % 4294967296))).set (k + q + 1) (.int .u64 ((X : Int) / 4294967296))
  refine h2.congr fun j _ => ?_
  have hM : N % 2 ^ (32 * k) * 2 ^ n < 2 ^ r * 2 ^ (32 * (k + q)) := by
    have h1 : N % 2 ^ (32 * k) < 2 ^ (32 * k) := Nat.mod_lt _ (Nat.two_pow_pos _)
    have e : 2 ^ r * 2 ^ (32 * (k + q)) = 2 ^ (32 * k) * 2 ^ n := by rw [← Nat.pow_add, ← Nat.pow_add]; congr 1; omega
    rw [e]; exact Nat.mul_lt_mul_of_pos_right h1 (Nat.two_pow_pos _)
  have hx63 : X < 2 ^ 63 := by
    have h1 := dgt_lt N k
    have h3 : (2 : Nat) ^ r ≤ 2 ^ 31 := Nat.pow_le_pow_right (by decide) (by omega)
    rw [hX, hD]
    calc dgt N k * 2 ^ r ≤ dgt N k * 2 ^ 31 := Nat.mul_le_mul_left _ h3
      _ < 2 ^ 63 := by omega
  have es : N % 2 ^ (32 * (k + 1)) * 2 ^ n = N % 2 ^ (32 * k) * 2 ^ n + X * 2 ^ (32 * (k + q)) := by
    rw [mod_succ, Nat.add_mul, hX, hD]
    congr 1
    rw [Nat.mul_assoc, Nat.mul_assoc, ← Nat.pow_add, ← Nat.pow_add]; congr 2; omega
  have key := add_at (j := j) hM hx63 (by rw [hX, Nat.mul_mod_left]) (by omega)
  rw [← es] at key
  rw [key]
  by_cases c1 : j = k + q + 1
  · rw [if_pos c1, if_neg (by omega), if_neg (by omega), if_pos c1]; congr 1
  · rw [if_neg c1]
    by_cases c2 : j = k + q
    · rw [if_pos c2, if_neg (by omega), if_pos c2]; congr 1
    · rw [if_neg c2]
      by_cases c3 : j < k + q
      · rw [if_pos c3]
      · rw [if_neg c3, if_neg c2, if_neg c1]
        rw [dgt_ge]
        refine Nat.lt_of_lt_of_le hM ?_
        rw [← Nat.pow_add]; exact Nat.pow_le_pow_right (by decide) (by omega)

set_option maxRecDepth 10000 in
set_option maxHeartbeats 800000 in
theorem shiftUp_row (g c N m n q r : Nat) (w : World) (hm : 1 ≤ m) (hm' : m ≤ 10000000) (hn : n ≤ 100000000) (hq : (n : Int) / 32 = q) (hr : (n : Int) % 32 = r) (hrow : Hid (RowIs w g m N)) (hg : g < w.heap.size) (hN : Hid (N < 2 ^ (32 * m))) :
    Calls Tryz.prog 169 #[.slice (some ⟨g, 0, none⟩) m c, .int .i64 n] w fun e w' => ∃ v, e = .returned v ∧ DN w' v (N * 2 ^ n) ∧ From w.heap.size v ∧ Below w.heap.size w w' := by
  have hq1 : q ≤ 3125000 := by omega
  have hr1 : r < 32 := by omega
  have HN : Hid (n = 32 * q + r) := by show _ = _; omega
  have hmk := fun w => run_make_row' (P := Tryz.prog) 150 48 (.int .u64 0) 8 Tryz.underlying150 info_u64 rfl .i64 .i64 (m + q + 1) (by omega) (by omega) w
  have ec : ((m + q + 1 : Nat) : Int) = (m : Int) + (q : Int) + 1 := by omega
  rw [ec] at hmk
  clear ec
  have HO := hide (own_made w (m + q + 1))
  go_enter Tryz.func169, Tryz.ntmps169
  go_wp2
  go_loopw [6] (fun i wr => ∃ k : Nat, k ≤ m ∧ i = .int .i64 k ∧ Hid (Own wr w.heap.size (m + q + 1) ((N % 2 ^ (32 * k)) * 2 ^ n)) ∧ Hid (Below w.heap.size w wr)) (fun i _ => m - (intOf i).toNat)
  case atStart => exact ⟨0, Nat.zero_le _, rfl, by rw [Nat.mul_zero, Nat.pow_zero, Nat.mod_one, Nat.zero_mul]; exact HO, (Below.refl _ _).alloc (Nat.le_refl _) _⟩
  case round =>
    clear HO hmk
    obtain ⟨k, hk, rfl, HOwn, HB⟩ := hrel
    by_cases hlt : k < m
    · have hc : wr.cell? ⟨g, k, none⟩ = some (.int .u64 (dgt N k : Int)) := (HB.out.cell (p := ⟨g, k, none⟩) hg).trans (hrow.out k hlt)
      have h1 := HOwn.out.cell (i := k + q) (by omega)
      have h2 := HOwn.out.cell (i := k + q + 1) (by omega)
      have f1 := HOwn.out.frozen (k + q)
      have f2 := HOwn.out.frozen (k + q + 1)
      have b1 := dgt_lt ((N % 2 ^ (32 * k)) * 2 ^ n) (k + q)
      have b2 := dgt_lt N k
      have HS := fun D X (hD : D = dgt N k) (hX : X = D * 2 ^ r) => shift_step HOwn.out HN.out hr1 hD hX (by omega)
      have HS := hide HS
      generalize hA : dgt ((N % 2 ^ (32 * k)) * 2 ^ n) (k + q) = A at h1 b1 HS
      generalize hE : dgt ((N % 2 ^ (32 * k)) * 2 ^ n) (k + q + 1) = E at h2
      generalize hD : dgt N k = D at hc b2
      have HD := hide hD
      clear hA hE hD
      have hX : IntKind.u64.wrap ((D : Int) * 2 ^ r) = ((D * 2 ^ r : Nat) : Int) := by
        have e1 : ((D : Int) * 2 ^ r) = ((D * 2 ^ r : Nat) : Int) := by rw [Int.natCast_mul, Int.natCast_pow]; rfl
        have h3 : (2 : Nat) ^ r ≤ 2 ^ 31 := Nat.pow_le_pow_right (by decide) (by omega)
        have h4 : D * 2 ^ r ≤ D * 2 ^ 31 := Nat.mul_le_mul_left _ h3
        rw [e1, IntKind.wrap_u64]; omega
      have hXb : D * 2 ^ r < 9223372036854775808 := by
        have h3 : (2 : Nat) ^ r ≤ 2 ^ 31 := Nat.pow_le_pow_right (by decide) (by omega)
        have h4 : D * 2 ^ r ≤ D * 2 ^ 31 := Nat.mul_le_mul_left _ h3
        omega
      generalize hXX : D * 2 ^ r = X at hX hXb
      have HXX := hide hXX
      clear hXX
      go_wp2
      go_roundw
      case rel => exact ⟨k + 1, by omega, by go_num, HS.out D X HD.out.symm HXX.out.symm, (HB.out.setCell (Nat.le_refl _) _).setCell (Nat.le_refl _) _⟩
      case measure => simp [intOf]; omega
    · obtain rfl : k = m := by omega
      have e : N % 2 ^ (32 * k) = N := Nat.mod_eq_of_lt hN.out
      rw [e] at HOwn
      have hM : Hid (N * 2 ^ n < 2 ^ (32 * (k + q + 1))) := by
        show _ < _
        have h1 : N * 2 ^ n < 2 ^ (32 * k) * 2 ^ n := Nat.mul_lt_mul_of_pos_right hN.out (Nat.two_pow_pos _)
        rw [← Nat.pow_add] at h1
        refine Nat.lt_of_lt_of_le h1 (Nat.pow_le_pow_right (by decide) ?_)
        have := HN.out; omega
      have hlt2 := HOwn.out.lt
      have HD := hide (dn_mk HOwn.out.row hM.out (Nat.le_refl _) hlt2)
      clear e
      go_wp2_with fail
      refine (trim_row _ _ _ _ _ HOwn.out.row hM.out (Nat.le_refl _) (by omega)).mono ?_
      rintro e w' ⟨rfl, rfl⟩
      go_wp2_with fail
      go_ret
      exact ⟨_, rfl, HD.out, from_at _ _ _ _ (Nat.le_refl _), HB.out⟩

theorem shiftUp_new (v : Value) (N n : Nat) (w : World) (h : DN w v N) (hb : nd N ≤ 10000000) (hn : n ≤ 100000000) :
    Calls Tryz.prog 169 #[v, .int .i64 n] w fun e w' => ∃ v, e = .returned v ∧ DN w' v (N * 2 ^ n) ∧ From w.heap.size v ∧ Below w.heap.size w w' := by
  rcases h with ⟨h0, p, c, rfl⟩ | ⟨h0, g, c, rfl, hc, hg, hr⟩
  · refine (shiftUp_nil p c n w).mono ?_
    rintro e w' ⟨rfl, rfl⟩
    exact ⟨_, rfl, Or.inl ⟨by rw [h0, Nat.zero_mul], none, 0, rfl⟩, from_nil _, Below.refl _ _⟩
  · exact shiftUp_row g c N (nd N) n (n / 32) (n % 32) w (nd_pos h0) hb hn (by omega) (by omega) hr hg (nd_lt N)
end Go.Proofs.YtiiajhomdpfafaaGreatDoor
namespace Go.Proofs.YtiiajhomdpfafaaGreatDoor
open Go.RowKit

structure Flw where
  (day : Int) (am : Nat) (cur : Int)
def flw0 : Flw := ⟨0, 0, 0⟩
def aF (a : Nat) : Value := .float .f64 a
structure FCells (mk : Nat → Value) (w : World) (b o : Nat) (f : Flw) : Prop where
  c0 : w.cell? ⟨b, o, none⟩ = some (.int .i64 f.day)
  c1 : w.cell? ⟨b, o + 1, none⟩ = some (mk f.am)
  c2 : w.cell? ⟨b, o + 2, none⟩ = some (.int .i64 f.cur)
theorem FCells.below {mk : Nat → Value} {w w' : World} {B b o : Nat} {f : Flw} (h : FCells mk w b o f) (hb : Below B w w') (hB : b < B) : FCells mk w' b o f :=
  ⟨(hb.cell (p := ⟨b, o, none⟩) hB).trans h.c0, (hb.cell (p := ⟨b, o + 1, none⟩) hB).trans h.c1, (hb.cell (p := ⟨b, o + 2, none⟩) hB).trans h.c2⟩
structure JSrc (mk : Nat → Value) (w : World) (p : Option Addr) (b off : Nat) (l : List Flw) : Prop where
  at_ : 0 < l.length → p = some ⟨b, off, none⟩
  lt : 0 < l.length → b < w.heap.size
  cell : ∀ i, i < l.length → FCells mk w b (off + i * 3) (l.getD i flw0)
theorem JSrc.below {mk : Nat → Value} {w w' : World} {p : Option Addr} {b off : Nat} {l : List Flw} (h : JSrc mk w p b off l) (hb : Below w.heap.size w w') : JSrc mk w' p b off l :=
  ⟨h.at_, fun hx => Nat.lt_of_lt_of_le (h.lt hx) hb.size, fun j hj => (h.cell j hj).below hb (h.lt (by omega))⟩
theorem JSrc.stay {mk : Nat → Value} {w w' : World} {B : Nat} {p : Option Addr} {b off : Nat} {l : List Flw} (h : JSrc mk w p b off l) (hb : Below B w w') (hB : 0 < l.length → b < B) : JSrc mk w' p b off l :=
  ⟨h.at_, fun hx => Nat.lt_of_lt_of_le (h.lt hx) hb.size, fun j hj => (h.cell j hj).below hb (hB (by omega))⟩
def flC (mk : Nat → Value) (r : Flw) : List Value := [.int .i64 r.day, mk r.am, .int .i64 r.cur]
def rowF (mk : Nat → Value) : List Flw → List Value
  | [] => []
  | r :: l => flC mk r ++ rowF mk l
theorem rowF_len (mk : Nat → Value) : ∀ l : List Flw, (rowF mk l).length = l.length * 3
  | [] => rfl
  | r :: l => by rw [rowF, List.length_append, rowF_len mk l, List.length_cons]; show 3 + _ = _; omega
theorem rowF_append (mk : Nat → Value) : ∀ a b : List Flw, rowF mk (a ++ b) = rowF mk a ++ rowF mk b
  | [], _ => rfl
  | r :: a, b => by rw [List.cons_append, rowF, rowF, rowF_append mk a b, List.append_assoc]
theorem rowF_get (mk : Nat → Value) : ∀ (l : List Flw) (i j : Nat), i < l.length → j < 3 → (rowF mk l)[i * 3 + j]? = (flC mk (l.getD i flw0))[j]?
  | [], i, j, h, _ => by simp at h
  | r :: l, 0, j, _, hj => by
    rw [rowF, Nat.zero_mul, Nat.zero_add, List.getElem?_append_left (by show j < 3; exact hj)]; rfl
  | r :: l, i + 1, j, h, hj => by
    rw [rowF, List.getElem?_append_right (by show 3 ≤ _; omega), show (i + 1) * 3 + j - (flC mk r).length = i * 3 + j by show _ - 3 = _; omega, rowF_get mk l i j (by simpa using h) hj]
    rfl
theorem rowF_one {mk : Nat → Value} (hm : ∀ a, (mk a).oneCell' = true) : ∀ (l : List Flw), ∀ u ∈ rowF mk l, u.oneCell' = true
  | [], u, h => by cases h
  | r :: l, u, h => by
    rw [rowF, List.mem_append] at h
    rcases h with h | h
    · simp only [flC, List.mem_cons, List.not_mem_nil, or_false] at h
      rcases h with rfl | rfl | rfl
      · rfl
      · exact hm _
      · rfl
    · exact rowF_one hm l u h
theorem fown_src {mk : Nat → Value} {w : World} {base n : Nat} {e : TypeId} {v : Value} {l : List Flw} (h : w.ownsRow base e 3 v n (rowF mk l)) (hn : l.length = n) :
    ∃ p g c, v = .slice p n c ∧ JSrc mk w p g 0 l ∧ base ≤ g ∧ n ≤ c ∧ c ≤ maxLen := by
  rcases h.2 with ⟨rfl, rfl⟩ | ⟨g, cap, cur, rfl, hg, hh, hnc, hcm, hsz, htk⟩
  · refine ⟨none, base, 0, rfl, ⟨fun h => by omega, fun h => by omega, fun i hi => by omega⟩, Nat.le_refl _, Nat.le_refl _, Nat.zero_le _⟩
  · refine ⟨_, g, cap, rfl, ⟨fun _ => rfl, fun _ => (Array.getElem?_eq_some_iff.1 hh).1, fun i hi => ?_⟩, hg, hnc, hcm⟩
    have key : ∀ j < 3, w.cell? ⟨g, 0 + i * 3 + j, none⟩ = (flC mk (l.getD i flw0))[j]? := fun j hj => by
      rw [← rowF_get mk l i j hi hj, show 0 + i * 3 + j = i * 3 + j by omega]
      exact World.ownsRow.cellAt h (i * 3 + j) (by omega)
    exact ⟨key 0 (by omega), key 1 (by omega), key 2 (by omega)⟩
theorem fown_nil (mk : Nat → Value) (w : World) (base : Nat) (e : TypeId) : w.ownsRow base e 3 (.slice none 0 0) 0 (rowF mk []) := ⟨rfl, Or.inl ⟨rfl, rfl⟩⟩
theorem fown_below {w w' : World} {base n : Nat} {e : TypeId} {v : Value} {xs : List Value} (h : w.ownsRow base e 3 v n xs) (hb : Below w.heap.size w w') : w'.ownsRow base e 3 v n xs := by
  refine ⟨h.1, ?_⟩
  rcases h.2 with hn | ⟨g, cap, cur, rfl, hg, hgg, rest⟩
  · exact .inl hn
  · exact .inr ⟨g, cap, cur, rfl, hg, by rw [hb.block g (Array.getElem?_eq_some_iff.1 hgg).1]; exact hgg, rest⟩
theorem fgrown_below {w w' : World} {v : Value} {B n : Nat} {e : TypeId} {xs : List Value} (ho : w.ownsRow B e 3 v n xs) (hg : w.grownBy w' v.ownBlock) (hB : B ≤ w.heap.size) : Below B w w' :=
  (Below.refl B w).grown hg hB (fun k hk => by
    rcases ho.2 with ⟨rfl, _⟩ | ⟨g, cap, cur, rfl, hbg, _⟩
    · cases hk
    · obtain rfl : g = k := by simpa [Value.ownBlock] using hk
      exact hbg)
theorem wpList_append_fl (mk : Nat → Value) (hm : ∀ a, (mk a).oneCell' = true) (t e : TypeId) (hu : Tryz.prog.underlying t = some (.slice e)) (hinf : (Tryz.prog.info? e).map (fun i => (i.zero, i.size, i.bytes)) = some (some (.agg #[.int .i64 0, mk 0, .int .i64 0]), 3, 24)) (hzs : (Value.agg #[.int .i64 0, mk 0, .int .i64 0]).cells.size = 3)
    (w : World) {ops : Array Oper} {rest : List Oper} {o : Oper} {a : Act} {Q : Exit → Act → World → Prop} (hgd : o.guard = none) (s x : Operand)
    (ho : o.op = .call { callee := .builtin .append, args := #[s, x], argTypes := #[t, t] })
    (base : Nat) (v : Value) (n : Nat) (xs : List Flw) (hs : a.eval s = v) (hown : w.ownsRow base e 3 v n (rowF mk xs))
    (b off c : Nat) (ys : List Flw) (hx : a.eval x = .slice (some ⟨b, off, none⟩) ys.length c) (hsrc : ∀ i < ys.length, FCells mk w b (off + i * 3) (ys.getD i flw0)) (hn : (n + ys.length) * 24 ≤ 140737488355328) (hbase : base ≤ w.heap.size)
    (h : ∀ v' w', w'.ownsRow base e 3 v' (n + ys.length) (rowF mk (xs ++ ys)) → w.grownBy w' v.ownBlock → wpList Tryz.prog ops Q rest (a.put o.dst v') w') : wpList Tryz.prog ops Q (o :: rest) a w := by
  obtain ⟨i0, hi, hz0, hz1, hz2⟩ := info_parts hinf
  refine wpList_append_own w hgd s x t ho base e i0 (.agg #[.int .i64 0, mk 0, .int .i64 0]) 3 24 hu hi hz0 hz1 hz2 hzs (by decide) v n (rowF mk xs) hs hown ⟨b, off, none⟩ ys.length c (rowF mk ys) hx (rowF_len mk ys) ?_ (rowF_one hm ys) (by unfold maxLen; omega) (by omega) hbase ?_
  · intro j u hj
    have hlt : j < ys.length * 3 := by
      have := (List.getElem?_eq_some_iff.1 hj).1
      rw [rowF_len] at this
      exact this
    rw [Addr.add_lit]
    obtain ⟨i, m, rfl, hm5⟩ : ∃ i m, j = i * 3 + m ∧ m < 3 := ⟨j / 3, j % 3, by omega, Nat.mod_lt _ (by omega)⟩
    have hq : i < ys.length := by omega
    rw [rowF_get mk ys _ _ hq hm5] at hj
    have hc := hsrc _ hq
    rw [← hj]
    rw [← Nat.add_assoc]
    rcases (show m = 0 ∨ m = 1 ∨ m = 2 by omega) with rfl | rfl | rfl
    · exact hc.c0
    · exact hc.c1
    · exact hc.c2
  · intro v' w' h1 h2 _
    refine h v' w' ?_ h2
    rw [rowF_append]; exact h1
theorem info_fl : (Tryz.prog.info? 45).map (fun i => (i.zero, i.size, i.bytes)) = some (some (.agg #[.int .i64 0, aF 0, .int .i64 0]), 3, 24) := by kernel_rfl
end Go.Proofs.YtiiajhomdpfafaaGreatDoor
namespace Go.Proofs.YtiiajhomdpfafaaGreatDoor
open Go.RowKit

set_option maxHeartbeats 800000 in
theorem dNum_any (x : Nat) (w : World) (hx : U64 x) :
    Calls Tryz.prog 73 #[.float .f64 x] w fun e w' => e = .returned (.bool (finB x)) ∧ w' = w := by
  have H1 := hidD fun w => isNaN_math x w hx
  cases hn : nanB (x : Int)
  · rw [hn] at H1
    have H2 := hidD fun w => isInf_both x _ w hx (inf_gt hn)
    generalize finB x = b at *
    clear hn hx
    cases b
    all_goals
      go_enter Tryz.func73, Tryz.ntmps73
      go_wp2_with fail
      refine (H1.out _).mono ?_
      rintro e w' ⟨rfl, rfl⟩
      go_wp2_with fail
      refine (H2.out _).mono ?_
      rintro e w' ⟨rfl, rfl⟩
      go_wp2_with fail
      go_ret
      exact ⟨rfl, rfl⟩
  · rw [hn] at H1
    rw [fin_nan hn]
    clear hn hx
    go_enter Tryz.func73, Tryz.ntmps73
    go_wp2_with fail
    refine (H1.out _).mono ?_
    rintro e w' ⟨rfl, rfl⟩
    go_wp2_with fail
    go_ret
    exact ⟨rfl, rfl⟩
end Go.Proofs.YtiiajhomdpfafaaGreatDoor
namespace Go.Proofs.YtiiajhomdpfafaaGreatDoor
open Go.RowKit

structure Trm where
  kind : Int
  a : Int
  b : Int
  x : Nat
  y : Nat
  day : Int
  to : Int
  cur : Int
  count : Int
  n : Int
  months : Int
def trC (t : Trm) : Array Value := #[.int .i64 t.kind, .int .i64 t.a, .int .i64 t.b, .float .f64 t.x, .float .f64 t.y, .int .i64 t.day, .int .i64 t.to, .int .i64 t.cur, .int .i64 t.count, .int .i64 t.n, .int .i64 t.months]
def TrB (w : World) (g : Nat) (t : Trm) : Prop := w.heap[g]? = some (.cells (trC t) 47)
theorem trm_cells {w : World} {g : Nat} {t : Trm} (h : TrB w g t) : w.cell? ⟨g, 0, none⟩ = some (.int .i64 t.kind) ∧ w.cell? ⟨g, 1, none⟩ = some (.int .i64 t.a) ∧ w.cell? ⟨g, 2, none⟩ = some (.int .i64 t.b) ∧ w.cell? ⟨g, 3, none⟩ = some (.float .f64 t.x) ∧ w.cell? ⟨g, 4, none⟩ = some (.float .f64 t.y) ∧ w.cell? ⟨g, 5, none⟩ = some (.int .i64 t.day) ∧ w.cell? ⟨g, 6, none⟩ = some (.int .i64 t.to) ∧ w.cell? ⟨g, 7, none⟩ = some (.int .i64 t.cur) ∧ w.cell? ⟨g, 8, none⟩ = some (.int .i64 t.count) ∧ w.cell? ⟨g, 9, none⟩ = some (.int .i64 t.n) ∧ w.cell? ⟨g, 10, none⟩ = some (.int .i64 t.months) := by
  unfold TrB trC at h
  refine ⟨?_, ?_, ?_, ?_, ?_, ?_, ?_, ?_, ?_, ?_, ?_⟩ <;>
  · simp only [World.cell?, h, Option.isSome_none, Bool.false_eq_true, if_false]; rfl
theorem TrB.frozen {w : World} {g : Nat} {t : Trm} (h : TrB w g t) (i : Nat) : w.frozen? ⟨g, i, none⟩ = false := by unfold TrB at h; simp [World.frozen?, h]
theorem TrB.below {w w' : World} {g : Nat} {t : Trm} (h : TrB w g t) (hb : Below w.heap.size w w') : TrB w' g t := (hb.block _ (lt_of_blk h)).trans h
theorem store_fltD (a : Addr) (x : Nat) (m : Mode) (w : World) : (store a (.float .f64 x) m).run Tryz.prog w = stored Tryz.prog w a (.float .f64 x) m := run_store Tryz.prog w a _ m rfl
theorem acc1_any (g : Nat) (w : World) : Calls Tryz.prog 33 #[.pointer (some ⟨g, 0, none⟩)] w fun e w' => e = .returned (.pointer (some ⟨g, 9, none⟩)) ∧ w' = w := by
  go_enter Tryz.func33, Tryz.ntmps33
  go_wp2_with fail
  go_ret
  exact ⟨rfl, rfl⟩
theorem acc2_any (g : Nat) (w : World) : Calls Tryz.prog 35 #[.pointer (some ⟨g, 0, none⟩)] w fun e w' => e = .returned (.pointer (some ⟨g, 3, none⟩)) ∧ w' = w := by
  go_enter Tryz.func35, Tryz.ntmps35
  go_wp2_with fail
  go_ret
  exact ⟨rfl, rfl⟩
theorem acc3_any (g : Nat) (w : World) : Calls Tryz.prog 36 #[.pointer (some ⟨g, 0, none⟩)] w fun e w' => e = .returned (.pointer (some ⟨g, 4, none⟩)) ∧ w' = w := by
  go_enter Tryz.func36, Tryz.ntmps36
  go_wp2_with fail
  go_ret
  exact ⟨rfl, rfl⟩
theorem acc4_any (g : Nat) (w : World) : Calls Tryz.prog 38 #[.pointer (some ⟨g, 0, none⟩)] w fun e w' => e = .returned (.pointer (some ⟨g, 8, none⟩)) ∧ w' = w := by
  go_enter Tryz.func38, Tryz.ntmps38
  go_wp2_with fail
  go_ret
  exact ⟨rfl, rfl⟩
theorem acc5_any (g : Nat) (w : World) : Calls Tryz.prog 40 #[.pointer (some ⟨g, 0, none⟩)] w fun e w' => e = .returned (.pointer (some ⟨g, 5, none⟩)) ∧ w' = w := by
  go_enter Tryz.func40, Tryz.ntmps40
  go_wp2_with fail
  go_ret
  exact ⟨rfl, rfl⟩
theorem acc6_any (g : Nat) (w : World) : Calls Tryz.prog 41 #[.pointer (some ⟨g, 0, none⟩)] w fun e w' => e = .returned (.pointer (some ⟨g, 6, none⟩)) ∧ w' = w := by
  go_enter Tryz.func41, Tryz.ntmps41
  go_wp2_with fail
  go_ret
  exact ⟨rfl, rfl⟩
theorem acc7_any (g : Nat) (w : World) : Calls Tryz.prog 43 #[.pointer (some ⟨g, 0, none⟩)] w fun e w' => e = .returned (.pointer (some ⟨g, 7, none⟩)) ∧ w' = w := by
  go_enter Tryz.func43, Tryz.ntmps43
  go_wp2_with fail
  go_ret
  exact ⟨rfl, rfl⟩
theorem acc8_any (g : Nat) (w : World) : Calls Tryz.prog 44 #[.pointer (some ⟨g, 0, none⟩)] w fun e w' => e = .returned (.pointer (some ⟨g, 10, none⟩)) ∧ w' = w := by
  go_enter Tryz.func44, Tryz.ntmps44
  go_wp2_with fail
  go_ret
  exact ⟨rfl, rfl⟩
structure AcF (f i : Nat) : Prop where
  en : ∀ xs w, (callFunc f xs).run Tryz.prog w = .ok (.enter f xs) w
  at_ : ∀ (g : Nat) (w : World), Calls Tryz.prog f #[.pointer (some ⟨g, 0, none⟩)] w fun e w' => e = .returned (.pointer (some ⟨g, i, none⟩)) ∧ w' = w
theorem acF1 : AcF 33 9 := ⟨fun xs w => enterD Tryz.func33 (by kernel_rfl) rfl xs w, acc1_any⟩
theorem acF2 : AcF 35 3 := ⟨fun xs w => enterD Tryz.func35 (by kernel_rfl) rfl xs w, acc2_any⟩
theorem acF3 : AcF 36 4 := ⟨fun xs w => enterD Tryz.func36 (by kernel_rfl) rfl xs w, acc3_any⟩
theorem acF4 : AcF 38 8 := ⟨fun xs w => enterD Tryz.func38 (by kernel_rfl) rfl xs w, acc4_any⟩
theorem acF5 : AcF 40 5 := ⟨fun xs w => enterD Tryz.func40 (by kernel_rfl) rfl xs w, acc5_any⟩
theorem acF6 : AcF 41 6 := ⟨fun xs w => enterD Tryz.func41 (by kernel_rfl) rfl xs w, acc6_any⟩
theorem acF7 : AcF 43 7 := ⟨fun xs w => enterD Tryz.func43 (by kernel_rfl) rfl xs w, acc7_any⟩
theorem acF8 : AcF 44 10 := ⟨fun xs w => enterD Tryz.func44 (by kernel_rfl) rfl xs w, acc8_any⟩
set_option maxRecDepth 20000 in
set_option maxHeartbeats 1600000 in
theorem fitNumX (f b : Nat) (ha : AcF f 3) (t : Trm) (w : World) (hb : w.heap[b]? = some (.cells #[fnB f] 101)) (hx : U64 t.x) :
    Calls Tryz.prog 72 #[.agg (trC t), .pointer (some ⟨b, 0, none⟩)] w fun e w' => e = .returned (.bool (finB t.x)) ∧ Below w.heap.size w w' := by
  have c0 := cell1_of hb
  have hlt := lt_of_blk hb
  have hne := Nat.ne_of_lt hlt
  have HA := hidD ha.at_
  have he := ha.en
  have HN := hidD (fun w => dNum_any t.x w hx)
  unfold fnB at c0
  clear hb ha hx
  unfold trC
  go_enter Tryz.func72, Tryz.ntmps72
  go_wp2_with fail
  refine (HA.out _ _).mono ?_
  rintro e w1 ⟨rfl, rfl⟩
  go_wp2_with fail
  refine (HN.out _).mono ?_
  rintro e w1 ⟨rfl, rfl⟩
  go_wp2_with fail
  go_ret
  exact ⟨rfl, al_bel _ _⟩
set_option maxRecDepth 20000 in
set_option maxHeartbeats 1600000 in
theorem clrNumX (f b g : Nat) (ha : AcF f 3) (t : Trm) (w : World) (hb : w.heap[b]? = some (.cells #[fnB f] 101)) (ht : TrB w g t) :
    Calls Tryz.prog 76 #[.pointer (some ⟨g, 0, none⟩), .pointer (some ⟨b, 0, none⟩)] w fun e w' => e = .returned (.tuple #[]) ∧ w' = w.setCell ⟨g, 3, none⟩ (.float .f64 0) := by
  have c0 := cell1_of hb
  have HA := hidD ha.at_
  have he := ha.en
  have hc := (trm_cells ht).2.2.2.1
  have hz := ht.frozen 3
  have hst := store_fltD
  unfold fnB at c0
  clear hb ha ht
  go_enter Tryz.func76, Tryz.ntmps76
  go_wp2_with fail
  refine (HA.out _ _).mono ?_
  rintro e w1 ⟨rfl, rfl⟩
  go_wp2_with fail
  exact bodyPost_end (v := .tuple #[]) (by simp [results, Tryz.results76, go_sem]) rfl ⟨rfl, rfl⟩
set_option maxRecDepth 20000 in
set_option maxHeartbeats 1600000 in
theorem fitNumY (f b : Nat) (ha : AcF f 4) (t : Trm) (w : World) (hb : w.heap[b]? = some (.cells #[fnB f] 101)) (hx : U64 t.y) :
    Calls Tryz.prog 72 #[.agg (trC t), .pointer (some ⟨b, 0, none⟩)] w fun e w' => e = .returned (.bool (finB t.y)) ∧ Below w.heap.size w w' := by
  have c0 := cell1_of hb
  have hlt := lt_of_blk hb
  have hne := Nat.ne_of_lt hlt
  have HA := hidD ha.at_
  have he := ha.en
  have HN := hidD (fun w => dNum_any t.y w hx)
  unfold fnB at c0
  clear hb ha hx
  unfold trC
  go_enter Tryz.func72, Tryz.ntmps72
  go_wp2_with fail
  refine (HA.out _ _).mono ?_
  rintro e w1 ⟨rfl, rfl⟩
  go_wp2_with fail
  refine (HN.out _).mono ?_
  rintro e w1 ⟨rfl, rfl⟩
  go_wp2_with fail
  go_ret
  exact ⟨rfl, al_bel _ _⟩
set_option maxRecDepth 20000 in
set_option maxHeartbeats 1600000 in
theorem clrNumY (f b g : Nat) (ha : AcF f 4) (t : Trm) (w : World) (hb : w.heap[b]? = some (.cells #[fnB f] 101)) (ht : TrB w g t) :
    Calls Tryz.prog 76 #[.pointer (some ⟨g, 0, none⟩), .pointer (some ⟨b, 0, none⟩)] w fun e w' => e = .returned (.tuple #[]) ∧ w' = w.setCell ⟨g, 4, none⟩ (.float .f64 0) := by
  have c0 := cell1_of hb
  have HA := hidD ha.at_
  have he := ha.en
  have hc := (trm_cells ht).2.2.2.2.1
  have hz := ht.frozen 4
  have hst := store_fltD
  unfold fnB at c0
  clear hb ha ht
  go_enter Tryz.func76, Tryz.ntmps76
  go_wp2_with fail
  refine (HA.out _ _).mono ?_
  rintro e w1 ⟨rfl, rfl⟩
  go_wp2_with fail
  exact bodyPost_end (v := .tuple #[]) (by simp [results, Tryz.results76, go_sem]) rfl ⟨rfl, rfl⟩
theorem box_cell (w : World) (xs : Array Value) (T : TypeId) (i : Nat) : (w.alloc (.cells xs T)).cell? ⟨w.heap.size, i, none⟩ = xs[i]? := by
  have h := heap_alloc_new w (.cells xs T)
  simp only [World.cell?, h, Option.isSome_none, Bool.false_eq_true, if_false]
theorem WhoB.cells {b f : Nat} {lo hi : Int} {rd wr : Nat} {w : World} (h : WhoB b f lo hi rd wr w) : w.cell? ⟨b, 0, none⟩ = some (fnB f) ∧ w.cell? ⟨b + 1, 0, none⟩ = some (.int .i64 lo) ∧ w.cell? ⟨b + 2, 0, none⟩ = some (.int .i64 hi) ∧ w.cell? ⟨b + 3, 0, none⟩ = some (fnB rd) ∧ w.cell? ⟨b + 4, 0, none⟩ = some (fnB wr) := ⟨cell1_of h.at_, cell1_of h.lo, cell1_of h.hi, cell1_of h.rd, cell1_of h.wr⟩
set_option maxRecDepth 20000 in
set_option maxHeartbeats 1600000 in
theorem fitWho (f b i : Nat) (lo hi v : Int) (rd wr : Nat) (ha : AcF f i) (t : Trm) (w : World) (hb : WhoB b f lo hi rd wr w) (hv : (trC t)[i]? = some (.int .i64 v)) :
    Calls Tryz.prog 114 #[.agg (trC t), .pointer (some ⟨b + 1, 0, none⟩), .pointer (some ⟨b, 0, none⟩), .pointer (some ⟨b + 2, 0, none⟩)] w fun e w' => e = .returned (.bool (decide (lo ≤ v) && decide (v ≤ hi))) ∧ Below w.heap.size w w' := by
  obtain ⟨c0, c1, c2, _, _⟩ := (hb.below (al_bel w (.cells (trC t) 47))).cells
  have cv : (w.alloc (.cells (trC t) 47)).cell? ⟨w.heap.size, i, none⟩ = some (.int .i64 v) := (box_cell w _ _ i).trans hv
  have HA := hidD ha.at_
  have he := ha.en
  have HW := hidD (al_bel w (.cells (trC t) 47))
  unfold fnB at c0
  clear hb ha hv
  obtain ⟨w1, hw1⟩ : ∃ w1, w.alloc (.cells (trC t) 47) = w1 := ⟨_, rfl⟩
  rw [hw1] at c0 c1 c2 cv HW
  have HW1 := hidD hw1
  clear hw1
  by_cases h1 : lo ≤ v <;> by_cases h2 : v ≤ hi
  all_goals
    first | (have t1 : decide (lo ≤ v) = true := decide_eq_true h1) | (have t1 : decide (lo ≤ v) = false := decide_eq_false h1)
    first | (have t2 : decide (v ≤ hi) = true := decide_eq_true h2) | (have t2 : decide (v ≤ hi) = false := decide_eq_false h2)
    clear h1 h2
    rw [t1, t2]
    go_enter Tryz.func114, Tryz.ntmps114
    go_wp2_with fail
    rw [HW1.out]
    clear HW1
    go_quiet ((exact Calls.quiet_of_same (HA.out _ _)))
    go_wp2_with fail
    go_ret
    exact ⟨rfl, ⟨HW.out.os, HW.out.tape, HW.out.output, HW.out.size, HW.out.block⟩⟩
end Go.Proofs.YtiiajhomdpfafaaGreatDoor
namespace Go.Proofs.YtiiajhomdpfafaaGreatDoor
open Go.RowKit

set_option maxRecDepth 20000 in
set_option maxHeartbeats 1600000 in
theorem clrWho (f b i g : Nat) (v : Int) (ha : AcF f i) (t : Trm) (w : World) (hb : w.heap[b]? = some (.cells #[fnB f] 93)) (ht : TrB w g t) (hv : (trC t)[i]? = some (.int .i64 v)) :
    Calls Tryz.prog 116 #[.pointer (some ⟨g, 0, none⟩), .pointer (some ⟨b, 0, none⟩)] w fun e w' => e = .returned (.tuple #[]) ∧ w' = w.setCell ⟨g, i, none⟩ (.int .i64 0) := by
  have c0 := cell1_of hb
  have HA := hidD ha.at_
  have he := ha.en
  have hc : w.cell? ⟨g, i, none⟩ = some (.int .i64 v) := by
    unfold TrB at ht
    simp only [World.cell?, ht, Option.isSome_none, Bool.false_eq_true, if_false]
    exact hv
  have hz := ht.frozen i
  unfold fnB at c0
  clear hb ha ht hv
  go_enter Tryz.func116, Tryz.ntmps116
  go_wp2_with fail
  refine (HA.out _ _).mono ?_
  rintro e w1 ⟨rfl, rfl⟩
  go_wp2_with fail
  exact bodyPost_end (v := .tuple #[]) (by simp [results, Tryz.results116, go_sem]) rfl ⟨rfl, rfl⟩
theorem enter_who2 (xs : Array Value) (w : World) : (callFunc 114 xs).run Tryz.prog w = .ok (.enter 114 xs) w := enterD Tryz.func114 (by kernel_rfl) rfl xs w
set_option maxRecDepth 20000 in
set_option maxHeartbeats 1600000 in
theorem fitBeh (f b d : Nat) (lo hi : Int) (rd wr : Nat) (ha : AcF f 6) (t : Trm) (w : World) (hb : WhoB b f lo hi rd wr w) (hd : w.heap[d]? = some (.cells #[fit2V b] 85)) :
    Calls Tryz.prog 86 #[.agg (trC t), .pointer (some ⟨d, 0, none⟩)] w fun e w' => e = .returned (.bool (decide (lo ≤ t.to) && decide (t.to ≤ hi) && decide (t.day < t.to))) ∧ Below w.heap.size w w' := by
  have hbl := al_bel w (.cells (trC t) 47)
  have c0 := cell1_of ((hbl.block _ (lt_of_blk hd)).trans hd)
  generalize hA : (decide (lo ≤ t.to) && decide (t.to ≤ hi)) = A
  have HF : Hid (Calls Tryz.prog 114 #[.agg #[.int .i64 t.kind, .int .i64 t.a, .int .i64 t.b, .float .f64 t.x, .float .f64 t.y, .int .i64 t.day, .int .i64 t.to, .int .i64 t.cur, .int .i64 t.count, .int .i64 t.n, .int .i64 t.months], .pointer (some ⟨b + 1, 0, none⟩), .pointer (some ⟨b, 0, none⟩), .pointer (some ⟨b + 2, 0, none⟩)] (w.alloc (.cells (trC t) 47)) fun e w' => e = .returned (.bool A) ∧ Below (w.alloc (.cells (trC t) 47)).heap.size (w.alloc (.cells (trC t) 47)) w') := by
    rw [← hA]
    exact fitWho f b 6 lo hi t.to rd wr ha t _ (hb.below hbl) rfl
  have he := enter_who2
  obtain ⟨d0, d1, d2, d3, d4, d5, d6, d7, d8, d9, d10⟩ := trm_cells (heap_alloc_new w (.cells (trC t) 47) : TrB _ w.heap.size t)
  have HW := hidD hbl
  have HT : Hid (TrB (w.alloc (.cells (trC t) 47)) w.heap.size t) := heap_alloc_new w (.cells (trC t) 47)
  unfold fit2V ptB at c0
  clear hb hd ha hbl hA
  cases A
  all_goals
    go_enter Tryz.func86, Tryz.ntmps86
    go_wp2_with fail
    refine HF.out.mono ?_
    rintro e w2 ⟨rfl, hb⟩
    have HB2 := hidD (HW.out.trans (hb.mono HW.out.size))
    obtain ⟨e0, e1, e2, e3, e4, e5, e6, _⟩ := trm_cells (HT.out.below hb)
    clear hb d0 d1 d2 d3 d4 d5 d6 d7 d8 d9 d10
    go_wp2_with fail
    go_ret
    exact ⟨rfl, HB2.out⟩
def fdI : Fd → Nat → Prop
  | .num f, i => AcF f i ∧ (i = 3 ∨ i = 4)
  | .who f _ _ _ _, i => AcF f i ∧ 5 ≤ i ∧ i ≤ 10
  | .beh f _ _ _ _, i => AcF f i ∧ i = 6
def tAt (t : Trm) (i : Nat) : Int := if i = 5 then t.day else if i = 6 then t.to else if i = 7 then t.cur else if i = 8 then t.count else if i = 9 then t.n else t.months
theorem trC_at (t : Trm) {i : Nat} (h5 : 5 ≤ i) (h : i ≤ 10) : (trC t)[i]? = some (.int .i64 (tAt t i)) := by
  rcases (show i = 5 ∨ i = 6 ∨ i = 7 ∨ i = 8 ∨ i = 9 ∨ i = 10 by omega) with rfl | rfl | rfl | rfl | rfl | rfl <;> rfl
structure TrU (t : Trm) : Prop where
  x : U64 t.x
  y : U64 t.y
def xAt (t : Trm) (i : Nat) : Nat := if i = 3 then t.x else t.y
def fdFit (d : Fd) (i : Nat) (t : Trm) : Bool :=
  match d with
  | .num _ => finB (xAt t i)
  | .who _ lo hi _ _ => decide (lo ≤ tAt t i) && decide (tAt t i ≤ hi)
  | .beh _ lo hi _ _ => decide (lo ≤ t.to) && decide (t.to ≤ hi) && decide (t.day < t.to)
set_option maxRecDepth 20000 in
theorem fd_fit {d : Fd} {i : Nat} {c0 c1 c2 c3 : Value} {w : World} (h : FdAt d (.agg #[c0, c1, c2, c3]) w) (hi : fdI d i) (t : Trm) (hu : TrU t) :
    ∃ F cap, c1 = .func (.func F) #[] cap ∧ (∀ xs w, (callFunc F xs).run Tryz.prog w = .ok (.enter F xs) w) ∧ ∀ wx, Below w.heap.size w wx → Calls Tryz.prog F (#[.agg (trC t)] ++ cap) wx fun e w' => e = .returned (.bool (fdFit d i t)) ∧ Below wx.heap.size wx w' := by
  cases d with
  | num f =>
    obtain ⟨b, e, hb⟩ := h
    obtain ⟨ha, hi⟩ := hi
    injection e with e
    obtain ⟨_, rfl, _, _⟩ : c0 = _ ∧ c1 = _ ∧ c2 = _ ∧ c3 = _ := by simpa [numV] using e
    refine ⟨_, _, rfl, fun xs w => enterD Tryz.func72 (by kernel_rfl) rfl xs w, fun wx hx => ?_⟩
    rcases hi with rfl | rfl
    · rw [show fdFit (.num f) 3 t = finB (xAt t 3) from rfl, show xAt t 3 = t.x from rfl]
      exact fitNumX f b ha t wx ((hx.block _ (lt_of_blk hb)).trans hb) hu.x
    · rw [show fdFit (.num f) 4 t = finB (xAt t 4) from rfl, show xAt t 4 = t.y from rfl]
      exact fitNumY f b ha t wx ((hx.block _ (lt_of_blk hb)).trans hb) hu.y
  | who f lo hi' rd wr =>
    obtain ⟨b, e, hb⟩ := h
    obtain ⟨ha, h5, h10⟩ := hi
    injection e with e
    obtain ⟨_, rfl, _, _⟩ : c0 = _ ∧ c1 = _ ∧ c2 = _ ∧ c3 = _ := by simpa [whoV] using e
    exact ⟨_, _, rfl, enter_who2, fun wx hx => fitWho f b i lo hi' (tAt t i) rd wr ha t wx (hb.below hx) (trC_at t h5 h10)⟩
  | beh f lo hi' rd wr =>
    obtain ⟨b, d, e, hb, hd⟩ := h
    obtain ⟨ha, rfl⟩ := hi
    injection e with e
    obtain ⟨_, rfl, _, _⟩ : c0 = _ ∧ c1 = _ ∧ c2 = _ ∧ c3 = _ := by simpa [behV] using e
    exact ⟨_, _, rfl, fun xs w => enterD Tryz.func86 (by kernel_rfl) rfl xs w, fun wx hx => fitBeh f b d lo hi' rd wr ha t wx (hb.below hx) ((hx.block _ (lt_of_blk hd)).trans hd)⟩
def clrV (i : Nat) : Value := if i = 3 ∨ i = 4 then .float .f64 0 else .int .i64 0
set_option maxRecDepth 20000 in
theorem fd_clear {d : Fd} {i : Nat} {c0 c1 c2 c3 : Value} {w : World} (h : FdAt d (.agg #[c0, c1, c2, c3]) w) (hi : fdI d i) :
    ∃ F cap, c3 = .func (.func F) #[] cap ∧ (∀ xs w, (callFunc F xs).run Tryz.prog w = .ok (.enter F xs) w) ∧ ∀ (t : Trm) (g : Nat) (wx : World), Below w.heap.size w wx → TrB wx g t → Calls Tryz.prog F (#[.pointer (some ⟨g, 0, none⟩)] ++ cap) wx fun e w' => e = .returned (.tuple #[]) ∧ w' = wx.setCell ⟨g, i, none⟩ (clrV i) := by
  cases d with
  | num f =>
    obtain ⟨b, e, hb⟩ := h
    obtain ⟨ha, hi⟩ := hi
    injection e with e
    obtain ⟨_, _, _, rfl⟩ : c0 = _ ∧ c1 = _ ∧ c2 = _ ∧ c3 = _ := by simpa [numV] using e
    refine ⟨_, _, rfl, fun xs w => enterD Tryz.func76 (by kernel_rfl) rfl xs w, fun t g wx hx ht => ?_⟩
    rcases hi with rfl | rfl
    · exact clrNumX f b g ha t wx ((hx.block _ (lt_of_blk hb)).trans hb) ht
    · exact clrNumY f b g ha t wx ((hx.block _ (lt_of_blk hb)).trans hb) ht
  | who f lo hi' rd wr =>
    obtain ⟨b, e, hb⟩ := h
    obtain ⟨ha, h5, h10⟩ := hi
    injection e with e
    obtain ⟨_, _, _, rfl⟩ : c0 = _ ∧ c1 = _ ∧ c2 = _ ∧ c3 = _ := by simpa [whoV] using e
    refine ⟨_, _, rfl, fun xs w => enterD Tryz.func116 (by kernel_rfl) rfl xs w, fun t g wx hx ht => ?_⟩
    have e : clrV i = .int .i64 0 := if_neg (by omega)
    rw [e]
    exact clrWho f b i g (tAt t i) ha t wx (hb.below hx).at_ ht (trC_at t h5 h10)
  | beh f lo hi' rd wr =>
    obtain ⟨b, d, e, hb, hd⟩ := h
    obtain ⟨ha, rfl⟩ := hi
    injection e with e
    obtain ⟨_, _, _, rfl⟩ : c0 = _ ∧ c1 = _ ∧ c2 = _ ∧ c3 = _ := by simpa [behV] using e
    exact ⟨_, _, rfl, fun xs w => enterD Tryz.func116 (by kernel_rfl) rfl xs w, fun t g wx hx ht => clrWho f b 6 g t.to ha t wx (hb.below hx).at_ ht rfl⟩
end Go.Proofs.YtiiajhomdpfafaaGreatDoor
namespace Go.Proofs.YtiiajhomdpfafaaGreatDoor
open Go.RowKit

theorem flat4 : ∀ (vs : List Value) (j q : Nat), (∀ i < vs.length, ∃ a b c d, vs.getD i undef = .agg #[a, b, c, d]) → j < vs.length → q < 4 → (vs.flatMap (fun v => v.cells.toList))[j * 4 + q]? = (vs.getD j undef).cells[q]?
  | [], j, q, _, h, _ => by simp at h
  | v :: vs, 0, q, hv, _, hq => by
    obtain ⟨a, b, c, d, e⟩ := hv 0 (by simp)
    have e' : v = .agg #[a, b, c, d] := e
    subst e'
    rw [List.flatMap_cons, Nat.zero_mul, Nat.zero_add, List.getElem?_append_left (by show q < 4; exact hq), Array.getElem?_toList]
    rfl
  | v :: vs, j + 1, q, hv, h, hq => by
    obtain ⟨a, b, c, d, e⟩ := hv 0 (by simp)
    have e' : v = .agg #[a, b, c, d] := e
    subst e'
    rw [List.flatMap_cons, List.getElem?_append_right (by show 4 ≤ _; omega)]
    rw [show (j + 1) * 4 + q - (Value.agg #[a, b, c, d]).cells.toList.length = j * 4 + q by show _ - 4 = _; omega]
    exact flat4 vs j q (fun i hi => hv (i + 1) (by simpa using hi)) (by simpa using h) hq
structure FCell (w : World) (h o : Nat) (d : Fd) (x0 x1 x2 x3 : Value) : Prop where
  c0 : w.cell? ⟨h, o, none⟩ = some x0
  c1 : w.cell? ⟨h, o + 1, none⟩ = some x1
  c2 : w.cell? ⟨h, o + 2, none⟩ = some x2
  c3 : w.cell? ⟨h, o + 3, none⟩ = some x3
  fd : FdAt d (.agg #[x0, x1, x2, x3]) w
theorem FCell.below {w w' : World} {h o : Nat} {d : Fd} {x0 x1 x2 x3 : Value} (c : FCell w h o d x0 x1 x2 x3) (hl : h < w.heap.size) (hb : Below w.heap.size w w') : FCell w' h o d x0 x1 x2 x3 := by
  have k : ∀ j, w'.cell? ⟨h, j, none⟩ = w.cell? ⟨h, j, none⟩ := fun j => World.cell?_of_block (w := w) (a := ⟨h, j, none⟩) (hb.block h hl)
  exact ⟨(k _).trans c.c0, (k _).trans c.c1, (k _).trans c.c2, (k _).trans c.c3, c.fd.below hb⟩
theorem flds_cell {ds : List Fd} {u : Value} {w : World} (hs : SlcAt ds u w) : ∃ p n g, u = .slice p n n ∧ n = ds.length ∧ (0 < n → p = some ⟨g, 0, none⟩ ∧ g < w.heap.size) ∧ ∀ j (hj : j < ds.length), ∃ c0 c1 c2 c3, FCell w g (j * 4) ds[j] c0 c1 c2 c3 := by
  rcases hs with ⟨rfl, rfl⟩ | ⟨_, g, vs, rfl, hh, hl, ha⟩
  · exact ⟨none, 0, 0, rfl, rfl, fun h => by omega, fun j hj => by simp at hj⟩
  · refine ⟨_, _, g, rfl, rfl, fun _ => ⟨rfl, lt_of_blk hh⟩, fun j hj => ?_⟩
    obtain ⟨c0, c1, c2, c3, e⟩ := (ha j hj).agg
    have hv : ∀ i < vs.length, ∃ a b c d, vs.getD i undef = .agg #[a, b, c, d] := fun i hi => (ha i (by omega)).agg
    have key : ∀ q < 4, w.cell? ⟨g, j * 4 + q, none⟩ = (vs.getD j undef).cells[q]? := fun q hq => by
      simp only [World.cell?, hh, Option.isSome_none, Bool.false_eq_true, if_false]
      rw [List.getElem?_toArray]
      exact flat4 vs j q hv (by omega) hq
    rw [e] at key
    refine ⟨c0, c1, c2, c3, key 0 (by omega), key 1 (by omega), key 2 (by omega), key 3 (by omega), ?_⟩
    have := ha j hj
    rw [e] at this
    exact this
def clrT (t : Trm) (i : Nat) : Trm := if i = 3 then { t with x := 0 } else if i = 4 then { t with y := 0 } else if i = 5 then { t with day := 0 } else if i = 6 then { t with to := 0 } else if i = 7 then { t with cur := 0 } else if i = 8 then { t with count := 0 } else if i = 9 then { t with n := 0 } else { t with months := 0 }
theorem TrB.clr {w : World} {g : Nat} {t : Trm} (h : TrB w g t) {i : Nat} (h3 : 3 ≤ i) (hi : i ≤ 10) : TrB (w.setCell ⟨g, i, none⟩ (clrV i)) g (clrT t i) := by
  unfold TrB trC at h ⊢
  rcases (show i = 3 ∨ i = 4 ∨ i = 5 ∨ i = 6 ∨ i = 7 ∨ i = 8 ∨ i = 9 ∨ i = 10 by omega) with rfl | rfl | rfl | rfl | rfl | rfl | rfl | rfl <;> exact (heap_setCell_same w g _ _ _ _ h).trans rfl
def clrL (t : Trm) : List Nat → Trm
  | [] => t
  | i :: l => clrL (clrT t i) l
theorem clrL_snoc (t : Trm) : ∀ (l : List Nat) (i : Nat), clrL t (l ++ [i]) = clrT (clrL t l) i
  | [], _ => rfl
  | j :: l, i => by show clrL (clrT t j) (l ++ [i]) = _; exact clrL_snoc (clrT t j) l i
def restT (k : Kd) (l : List Nat) (t : Trm) : Trm := { clrL t l with a := if 0 < k.parts then 0 else (clrL t l).a, b := if 1 < k.parts then 0 else (clrL t l).b }
theorem fd_shape {d : Fd} {x0 x1 x2 x3 : Value} {w : World} (h : FdAt d (.agg #[x0, x1, x2, x3]) w) : ∃ F0 C0 F2 C2, x0 = .func (.func F0) #[] C0 ∧ x2 = .func (.func F2) #[] C2 := by
  cases d with
  | num f =>
    obtain ⟨b, e, _⟩ := h
    injection e with e
    obtain ⟨rfl, _, rfl, _⟩ : x0 = _ ∧ x1 = _ ∧ x2 = _ ∧ x3 = _ := by simpa [numV] using e
    exact ⟨_, _, _, _, rfl, rfl⟩
  | who f lo hi' rd wr =>
    obtain ⟨b, e, _⟩ := h
    injection e with e
    obtain ⟨rfl, _, rfl, _⟩ : x0 = _ ∧ x1 = _ ∧ x2 = _ ∧ x3 = _ := by simpa [whoV] using e
    exact ⟨_, _, _, _, rfl, rfl⟩
  | beh f lo hi' rd wr =>
    obtain ⟨b, d, e, _⟩ := h
    injection e with e
    obtain ⟨rfl, _, rfl, _⟩ : x0 = _ ∧ x1 = _ ∧ x2 = _ ∧ x3 = _ := by simpa [behV] using e
    exact ⟨_, _, _, _, rfl, rfl⟩
structure FtB (w : World) (k : Kd) (u : Value) (t r : Trm) (wr : World) : Prop where
  kb : wr.heap[w.heap.size]? = some (.cells #[.int .i64 k.num, .string k.word, u, .int .i64 k.parts, fnB k.mean] 65)
  tb : TrB wr (w.heap.size + 1) t
  rb : TrB wr (w.heap.size + 1 + 1) r
  bl : Below w.heap.size w wr
theorem FtB.step {w : World} {k : Kd} {u : Value} {t r : Trm} {wr w' : World} (h : FtB w k u t r wr) (hb : Below wr.heap.size wr w') : FtB w k u t r w' := ⟨(hb.block _ (lt_of_blk h.kb)).trans h.kb, h.tb.below hb, h.rb.below hb, h.bl.trans (hb.mono h.bl.size)⟩
theorem FtB.clr {w : World} {k : Kd} {u : Value} {t r : Trm} {wr : World} (h : FtB w k u t r wr) {i : Nat} (h3 : 3 ≤ i) (hi : i ≤ 10) : FtB w k u t (clrT r i) (wr.setCell ⟨w.heap.size + 1 + 1, i, none⟩ (clrV i)) :=
  ⟨(blkF_far _ _ _ _ (by show w.heap.size ≠ w.heap.size + 1 + 1; omega)).trans h.kb, (blkF_far _ _ _ _ (by show w.heap.size + 1 ≠ w.heap.size + 1 + 1; omega)).trans h.tb, h.rb.clr h3 hi, h.bl.setCell (p := ⟨w.heap.size + 1 + 1, i, none⟩) (by show w.heap.size ≤ w.heap.size + 1 + 1; omega) _⟩
theorem FtB.seta {w : World} {k : Kd} {u : Value} {t r : Trm} {wr : World} (h : FtB w k u t r wr) : FtB w k u t { r with a := 0 } (wr.setCell ⟨w.heap.size + 1 + 1, 1, none⟩ (.int .i64 0)) :=
  ⟨(blkF_far _ _ _ _ (by show w.heap.size ≠ w.heap.size + 1 + 1; omega)).trans h.kb, (blkF_far _ _ _ _ (by show w.heap.size + 1 ≠ w.heap.size + 1 + 1; omega)).trans h.tb, (heap_setCell_same _ _ 1 _ _ _ h.rb).trans rfl, h.bl.setCell (p := ⟨w.heap.size + 1 + 1, 1, none⟩) (by show w.heap.size ≤ w.heap.size + 1 + 1; omega) _⟩
theorem FtB.setb {w : World} {k : Kd} {u : Value} {t r : Trm} {wr : World} (h : FtB w k u t r wr) : FtB w k u t { r with b := 0 } (wr.setCell ⟨w.heap.size + 1 + 1, 2, none⟩ (.int .i64 0)) :=
  ⟨(blkF_far _ _ _ _ (by show w.heap.size ≠ w.heap.size + 1 + 1; omega)).trans h.kb, (blkF_far _ _ _ _ (by show w.heap.size + 1 ≠ w.heap.size + 1 + 1; omega)).trans h.tb, (heap_setCell_same _ _ 2 _ _ _ h.rb).trans rfl, h.bl.setCell (p := ⟨w.heap.size + 1 + 1, 2, none⟩) (by show w.heap.size ≤ w.heap.size + 1 + 1; omega) _⟩
theorem ftB_at (w : World) (k : Kd) (u : Value) (t : Trm) : FtB w k u t t (((w.alloc (.cells #[.int .i64 k.num, .string k.word, u, .int .i64 k.parts, fnB k.mean] 65)).alloc (.cells (trC t) 47)).alloc (.cells (trC t) 47)) := by
  refine ⟨?_, ?_, ?_, (((Below.refl _ _).alloc (Nat.le_refl _) _).alloc (by simp) _).alloc (by simp; omega) _⟩
  · simp only [al_at, sz_al]; repeat rw [if_neg (by omega)]
    exact if_pos trivial
  · unfold TrB; simp only [al_at, sz_al]; repeat rw [if_neg (by omega)]
    exact if_pos trivial
  · unfold TrB; simp only [al_at, sz_al]; exact if_pos trivial
end Go.Proofs.YtiiajhomdpfafaaGreatDoor
namespace Go.Proofs.YtiiajhomdpfafaaGreatDoor
open Go.RowKit

def ckO (i : Nat) : Int := (i : Int) + 2
def ckT (i : Nat) : Int := if i < 3 then (i : Int) + 2 else (i : Int) + 3
def ckB (i : Nat) : Bool := decide (2 ≤ i)
structure CTab (h : Nat) (w : World) : Prop where
  c0 : ∀ i < 6, w.cell? ⟨h, i * 3, none⟩ = some (.int .i64 (ckO i))
  c1 : ∀ i < 6, w.cell? ⟨h, i * 3 + 1, none⟩ = some (.int .i64 (ckT i))
  c2 : ∀ i < 6, w.cell? ⟨h, i * 3 + 2, none⟩ = some (.bool (ckB i))
  lt : h < w.heap.size
theorem CTab.below {h : Nat} {w w' : World} (t : CTab h w) (hb : Below w.heap.size w w') : CTab h w' := by
  have k : ∀ j, w'.cell? ⟨h, j, none⟩ = w.cell? ⟨h, j, none⟩ := fun j => World.cell?_of_block (w := w) (a := ⟨h, j, none⟩) (hb.block h t.lt)
  exact ⟨fun i hi => (k _).trans (t.c0 i hi), fun i hi => (k _).trans (t.c1 i hi), fun i hi => (k _).trans (t.c2 i hi), Nat.lt_of_lt_of_le t.lt hb.size⟩
end Go.Proofs.YtiiajhomdpfafaaGreatDoor
namespace Go.Proofs.YtiiajhomdpfafaaGreatDoor
open Go.RowKit

structure Opr where
  kind : Int
  x : Nat
  y : Nat
  day : Int
  to : Int
  cur : Int
  count : Int
  n : Int
  months : Int
end Go.Proofs.YtiiajhomdpfafaaGreatDoor
namespace Go.Proofs.YtiiajhomdpfafaaGreatDoor
open Go.RowKit

theorem eqFlt' (d : Nat) (a b : Nat) (w : World) : (Op.equalIn (d + 1) 43 (.float .f64 a) (.float .f64 b)).run Tryz.prog w = .ok (FloatKind.f64.format.order a b == some .eq) w := by
  simp [Op.equalIn, run_underlying Tryz.underlying43]
  rfl
theorem eqFlt (a b : Nat) (w : World) : (Op.equalIn 9999 43 (.float .f64 a) (.float .f64 b)).run Tryz.prog w = .ok (FloatKind.f64.format.order a b == some .eq) w := eqFlt' 9998 a b w
theorem eqf_cons {d : Nat} {xs ys : Array Value} {f : Field} {rest : List Field} {a b : Value} {r s : Bool} {w : World} (hn : (f.name != "_") = true) (hx : (part f.type xs f.offset).run Tryz.prog w = .ok a w) (hy : (part f.type ys f.offset).run Tryz.prog w = .ok b w) (he : (Op.equalIn d f.type a b).run Tryz.prog w = .ok r w) (hr : (Op.eqFields d xs ys rest).run Tryz.prog w = .ok s w) : (Op.eqFields d xs ys (f :: rest)).run Tryz.prog w = .ok (r && s) w := by
  have hn' : f.name ≠ "_" := by simpa using hn
  cases r <;> simp [Op.eqFields, Sem.run_bind, hx, hy, he, hn', hr]
theorem eqf_nil {d : Nat} {xs ys : Array Value} {w : World} : (Op.eqFields d xs ys []).run Tryz.prog w = .ok true w := by simp [Op.eqFields]
end Go.Proofs.YtiiajhomdpfafaaGreatDoor
namespace Go.Proofs.YtiiajhomdpfafaaGreatDoor
open Go.RowKit

structure PtsB (w : World) (g : Nat) (a b : Int) : Prop where
  c0 : w.cell? ⟨g, 0, none⟩ = some (.int .i64 a)
  c1 : w.cell? ⟨g, 1, none⟩ = some (.int .i64 b)
  lt : g < w.heap.size
theorem pts_cell {w : World} {o1 o2 : Obj} {xs : Array Value} {T : TypeId} (i : Nat) : (((w.alloc o1).alloc o2).alloc (.cells xs T)).cell? ⟨w.heap.size + 1 + 1, i, none⟩ = xs[i]? := by
  have h := box_cell ((w.alloc o1).alloc o2) xs T i
  rw [sz_al, sz_al] at h
  exact h
set_option maxRecDepth 20000 in
set_option maxHeartbeats 3200000 in
theorem partsOf_any (k : Kd) (p : Option Addr) (n m : Nat) (hm : k.parts = (m : Int)) (hm2 : m ≤ 2) (t : Trm) (w : World) :
    Calls Tryz.prog 21 #[.agg #[.int .i64 k.num, .string k.word, .slice p n n, .int .i64 k.parts, fnB k.mean], .agg (trC t)] w fun e w' => e = .returned (.slice (some ⟨w.heap.size + 1 + 1, 0, none⟩) m 2) ∧ PtsB w' (w.heap.size + 1 + 1) t.a t.b ∧ Below w.heap.size w w' := by
  have m1 : (0 : Int) ≤ (m : Int) := Int.natCast_nonneg _
  have m2 : (m : Int) ≤ 2 := by omega
  have m3 : ¬ (2 : Int) < (m : Int) := by omega
  have m4 : ¬ (m : Int) < 0 := by omega
  rw [hm]
  clear hm
  unfold fnB trC
  go_enter Tryz.func21, Tryz.ntmps21
  go_wp2_with fail
  go_ret
  refine ⟨rfl, ⟨?_, ?_, ?_⟩, ?_⟩
  · exact pts_cell 0
  · exact pts_cell 1
  · simp
  · exact (((Below.refl _ _).alloc (Nat.le_refl _) _).alloc (by simp) _).alloc (by simp; omega) _
def rowL : List (Int × Int) → List Value
  | [] => []
  | x :: l => [.int .i64 x.1, .int .i64 x.2] ++ rowL l
theorem rowL_len : ∀ l : List (Int × Int), (rowL l).length = l.length * 2
  | [] => rfl
  | x :: l => by rw [rowL, List.length_append, rowL_len l]; show 2 + l.length * 2 = (l.length + 1) * 2; omega
theorem rowL_append : ∀ a b : List (Int × Int), rowL (a ++ b) = rowL a ++ rowL b
  | [], _ => rfl
  | x :: a, b => by rw [List.cons_append, rowL, rowL, rowL_append a b, List.append_assoc]
theorem rowL_one : ∀ (l : List (Int × Int)), ∀ u ∈ rowL l, u.oneCell' = true
  | [], u, h => by cases h
  | x :: l, u, h => by
    rw [rowL, List.mem_append] at h
    rcases h with h | h
    · simp only [List.mem_cons, List.not_mem_nil, or_false] at h
      rcases h with rfl | rfl <;> rfl
    · exact rowL_one l u h
theorem rowL_take : ∀ (l : List (Int × Int)) (k : Nat), rowL (l.take k) = (rowL l).take (k * 2)
  | [], k => by simp [rowL]
  | x :: l, 0 => by simp [rowL]
  | x :: l, k + 1 => by
    rw [List.take_succ_cons, rowL, rowL, rowL_take l k, show (k + 1) * 2 = k * 2 + 1 + 1 by omega]
    rfl
theorem rowL_get : ∀ (l : List (Int × Int)) (i : Nat), i < l.length → (rowL l)[i * 2]? = some (.int .i64 (l.getD i (0, 0)).1) ∧ (rowL l)[i * 2 + 1]? = some (.int .i64 (l.getD i (0, 0)).2)
  | [], i, h => by simp at h
  | x :: l, 0, _ => ⟨rfl, rfl⟩
  | x :: l, i + 1, h => by
    have := rowL_get l i (by simpa using h)
    rw [rowL, show (i + 1) * 2 = i * 2 + 2 by omega]
    exact ⟨this.1, this.2⟩
def OwnL (B : Nat) (v : Value) (xs : List (Int × Int)) (w : World) : Prop := w.ownsRow B 89 2 v xs.length (rowL xs)
theorem ownL_nil (B : Nat) (w : World) : OwnL B (.slice none 0 0) [] w := ⟨rfl, .inl ⟨rfl, rfl⟩⟩
theorem OwnL.below {B : Nat} {v : Value} {xs : List (Int × Int)} {w w' : World} (h : OwnL B v xs w) (hb : Below w.heap.size w w') : OwnL B v xs w' := by
  refine ⟨h.1, ?_⟩
  rcases h.2 with hn | ⟨g, cap, cur, rfl, hg, hgg, rest⟩
  · exact .inl hn
  · exact .inr ⟨g, cap, cur, rfl, hg, (hb.block _ (lt_of_blk hgg)).trans hgg, rest⟩
theorem OwnL.src {B : Nat} {v : Value} {xs : List (Int × Int)} {w : World} (h : OwnL B v xs w) : ∃ p c g, v = .slice p xs.length c ∧ xs.length ≤ c ∧ (0 < xs.length → p = some ⟨g, 0, none⟩) ∧ (p = none → c = 0) ∧ (∀ a, p = some a → a = ⟨g, 0, none⟩ ∧ B ≤ g ∧ g < w.heap.size) ∧ (∀ i < xs.length, w.cell? ⟨g, i * 2, none⟩ = some (.int .i64 (xs.getD i (0, 0)).1) ∧ w.cell? ⟨g, i * 2 + 1, none⟩ = some (.int .i64 (xs.getD i (0, 0)).2)) ∧ ∀ k ≤ xs.length, OwnL B (.slice p k c) (xs.take k) w := by
  rcases h.2 with ⟨rfl, hn⟩ | ⟨g, cap, cur, rfl, hg, hgg, hnc, hcm, hsz, htk⟩
  · have hx := List.length_eq_zero_iff.1 hn
    subst hx
    exact ⟨none, 0, 0, rfl, Nat.le_refl _, fun h => by simp at h, fun _ => rfl, (fun a h => by cases h), fun i hi => by simp at hi, fun k hk => by
      obtain rfl : k = 0 := by simpa using hk
      exact ownL_nil _ _⟩
  · refine ⟨_, cap, g, rfl, hnc, fun _ => rfl, (fun h => by cases h), fun a ha => ⟨by injection ha with ha; exact ha.symm, hg, lt_of_blk hgg⟩, fun i hi => ?_, fun k hk => ?_⟩
    · have h1 := World.ownsRow.cellAt h (i * 2) (by omega)
      have h2 := World.ownsRow.cellAt h (i * 2 + 1) (by omega)
      rw [(rowL_get xs i hi).1] at h1
      rw [(rowL_get xs i hi).2] at h2
      exact ⟨h1, h2⟩
    · have hl : (xs.take k).length = k := by rw [List.length_take]; omega
      unfold OwnL
      rw [hl]
      refine ⟨by rw [rowL_len, hl], .inr ⟨g, cap, cur, rfl, hg, hgg, by omega, hcm, hsz, ?_⟩⟩
      rw [rowL_take, ← htk, List.take_take, Nat.min_eq_left (Nat.mul_le_mul_right 2 hk)]
theorem info_loo : (Tryz.prog.info? 89).map (fun i => (i.zero, i.size, i.bytes)) = some (some (.agg #[.int .i64 0, .int .i64 0]), 2, 16) := by kernel_rfl
theorem info_partsE {t : TypeId} {z : Value} {sz by_ : Nat} (h : (Tryz.prog.info? t).map (fun i => (i.zero, i.size, i.bytes)) = some (some z, sz, by_)) : ∃ i, Tryz.prog.info? t = some i ∧ i.zero = some z ∧ i.size = sz ∧ i.bytes = by_ := by
  cases hi : Tryz.prog.info? t with
  | none => rw [hi] at h; cases h
  | some i =>
    rw [hi] at h
    have h' := Option.some.inj h
    exact ⟨i, rfl, (Prod.ext_iff.1 h').1, (Prod.ext_iff.1 (Prod.ext_iff.1 h').2).1, (Prod.ext_iff.1 (Prod.ext_iff.1 h').2).2⟩
theorem lgrown_below {w w' : World} {v : Value} {B n : Nat} {e : TypeId} {xs : List Value} (ho : w.ownsRow B e 2 v n xs) (hg : w.grownBy w' v.ownBlock) (hB : B ≤ w.heap.size) : Below B w w' :=
  (Below.refl B w).grown hg hB (fun k hk => by
    rcases ho.2 with ⟨rfl, _⟩ | ⟨g, cap, cur, rfl, hbg, _⟩
    · cases hk
    · obtain rfl : g = k := by simpa [Value.ownBlock] using hk
      exact hbg)
theorem wpList_append_loo (w : World) {ops : Array Oper} {rest : List Oper} {o : Oper} {a : Act} {Q : Exit → Act → World → Prop} (hgd : o.guard = none) (s x : Operand)
    (ho : o.op = .call { callee := .builtin .append, args := #[s, x], argTypes := #[84, 84] })
    (B : Nat) (v : Value) (n : Nat) (xs : List (Int × Int)) (hs : a.eval s = v) (hl : xs.length = n) (hown : OwnL B v xs w) (g c : Nat) (y : Int × Int) (hx : a.eval x = .slice (some ⟨g, 0, none⟩) 1 c) (h0 : w.cell? ⟨g, 0, none⟩ = some (.int .i64 y.1)) (h1 : w.cell? ⟨g, 1, none⟩ = some (.int .i64 y.2)) (hn : n ≤ 100000) (hbase : B ≤ w.heap.size)
    (h : ∀ v' w', OwnL B v' (xs ++ [y]) w' → Below B w w' → wpList Tryz.prog ops Q rest (a.put o.dst v') w') : wpList Tryz.prog ops Q (o :: rest) a w := by
  subst hl
  obtain ⟨i0, hi, hz0, hz1, hz2⟩ := info_partsE info_loo
  refine wpList_append_own w hgd s x 84 ho B 89 i0 (.agg #[.int .i64 0, .int .i64 0]) 2 16 Tryz.underlying84 hi hz0 hz1 hz2 rfl (by decide) v xs.length (rowL xs) hs hown ⟨g, 0, none⟩ 1 c (rowL [y]) hx rfl ?_ (rowL_one [y]) (by unfold maxLen; omega) (by omega) hbase ?_
  · intro j u hj
    have hlt : j < 2 := (List.getElem?_eq_some_iff.1 hj).1
    rw [Addr.add_lit]
    rcases (show j = 0 ∨ j = 1 by omega) with rfl | rfl
    · rw [← hj]; exact h0
    · rw [← hj]; exact h1
  · intro v' w' a1 a2 _
    refine h v' w' ?_ (lgrown_below hown a2 hbase)
    unfold OwnL
    rw [rowL_append, List.length_append]
    exact a1
set_option maxRecDepth 20000 in
set_option maxHeartbeats 6400000 in
theorem joined_0 (B : Nat) (v : Value) (xs : List (Int × Int)) (pl : Int) (pg : Nat) (w : World) (ho : OwnL B v xs w) (hB : B ≤ w.heap.size) (hlen : xs.length ≤ 2000) :
    Calls Tryz.prog 31 #[v, .int .i64 pl, .slice (some ⟨pg, 0, none⟩) 0 2] w fun e w' => ∃ v', e = .returned (.tuple #[v', .bool true]) ∧ OwnL B v' (xs ++ [(pl, 1)]) w' ∧ Below B w w' := by
  obtain ⟨p, c, g, rfl, hc, hp, hn, hpg, _, htk⟩ := ho.src
  have HO := hidD (htk xs.length (Nat.le_refl _))
  rw [List.take_length] at HO
  have HL : Hid (xs.length = xs.length) := rfl
  obtain ⟨N, hN⟩ : ∃ N, xs.length = N := ⟨_, rfl⟩
  have HN := hidD hN
  rw [hN] at hlen hc HO ⊢
  have HS := hidD hB
  have i1 : ¬ (N : Int) < 0 := by omega
  have i2 : (0 : Int) ≤ (N : Int) := by omega
  have i3 : (N : Int) ≤ (c : Int) := by omega
  have i4 : ¬ (c : Int) < (N : Int) := by omega
  clear hN ho hp hn hpg htk hB HL
  go_enter Tryz.func31, Tryz.ntmps31
  go_wp2_with fail
  refine wp_loop_rounds 1 ?_
  rw [rounds_succ]
  go_wp2_with (at_builtin; refine wpList_append_loo _ rfl (.tmp 47) (.tmp 52) rfl B (.slice p N c) N xs rfl HN.out (HO.out.below (al_bel _ _)) w.heap.size 1 (pl, 1) rfl (by simp) (by simp) (by omega) (Nat.le_trans HS.out (by simp)) ?_; intro v5 w5 ho5 hb5; have HO5 := hidD ho5; have HB5 := hidD (((Below.refl B w).alloc HS.out _).trans hb5); clear ho5 hb5)
  go_ret2
  exact ⟨_, rfl, HO5.out, HB5.out⟩
set_option maxRecDepth 20000 in
set_option maxHeartbeats 6400000 in
theorem joined_1 (B : Nat) (v : Value) (xs : List (Int × Int)) (x : Int × Int) (pl b : Int) (pg : Nat) (w : World) (ho : OwnL B v (xs ++ [x]) w) (hB : B ≤ w.heap.size) (hlen : xs.length ≤ 2000) (hp : PtsB w pg x.1 b) (hx0 : 0 ≤ x.2) (hx1 : x.2 ≤ 2000) :
    Calls Tryz.prog 31 #[v, .int .i64 pl, .slice (some ⟨pg, 0, none⟩) 1 2] w fun e w' => ∃ v', e = .returned (.tuple #[v', .bool true]) ∧ OwnL B v' (xs ++ [(pl, x.2 + 1)]) w' ∧ Below B w w' := by
  obtain ⟨p, c, g, rfl, hc, hpp, hn, hpg, hcl, htk⟩ := ho.src
  have hl : (xs ++ [x]).length = xs.length + 1 := by simp
  rw [hl] at hc hpp hcl htk ⊢
  obtain rfl := hpp (by omega)
  have HO := hidD (htk xs.length (by omega))
  rw [List.take_left] at HO
  obtain ⟨c0, c1⟩ := hcl xs.length (by omega)
  have hgx : (xs ++ [x]).getD xs.length (0, 0) = x := by simp [List.getD]
  rw [hgx] at c0 c1
  obtain ⟨N, hN⟩ : ∃ N, xs.length = N := ⟨_, rfl⟩
  have HN := hidD hN
  rw [hN] at hlen hc HO c0 c1 ⊢
  have HS := hidD hB
  have p0 := hp.c0
  obtain ⟨xa, hxa⟩ : ∃ xa, x.1 = xa := ⟨_, rfl⟩
  obtain ⟨xd, hxd⟩ : ∃ xd, x.2 = xd := ⟨_, rfl⟩
  rw [hxa] at c0 p0
  rw [hxd] at c1 hx0 hx1 ⊢
  have i0 : (((N + 1 : Nat) : Int) - 1) = (N : Int) := by omega
  have i1 : ¬ (N : Int) < 0 := by omega
  have i2 : (0 : Int) ≤ (N : Int) := by omega
  have i3 : (N : Int) ≤ (c : Int) := by omega
  have i4 : ¬ (c : Int) < (N : Int) := by omega
  have i5 : (N : Int) < ((N + 1 : Nat) : Int) := by omega
  have i6 : max 0 xd = xd := by omega
  have i7 : (N : Int) < (N : Int) + 1 := by omega
  clear hN ho hn hpg htk hB hl hcl hgx hxa hxd hp
  go_enter Tryz.func31, Tryz.ntmps31
  go_wp2_with fail
  refine wp_loop_rounds 2 ?_
  rw [rounds_succ]
  go_wp2_with fail
  rw [rounds_succ]
  go_wp2_with (at_builtin; refine wpList_append_loo _ rfl (.tmp 47) (.tmp 52) rfl B (.slice (some ⟨g, 0, none⟩) N c) N xs rfl HN.out (HO.out.below (al_bel _ _)) w.heap.size 1 (pl, xd + 1) rfl (by simp) (by simp) (by omega) (Nat.le_trans HS.out (by simp)) ?_; intro v5 w5 ho5 hb5; have HO5 := hidD ho5; have HB5 := hidD (((Below.refl B w).alloc HS.out _).trans hb5); clear ho5 hb5)
  go_ret2
  exact ⟨_, rfl, HO5.out, HB5.out⟩
end Go.Proofs.YtiiajhomdpfafaaGreatDoor
namespace Go.Proofs.YtiiajhomdpfafaaGreatDoor
open Go.RowKit

theorem conv_1 (w : World) : ∃ C W1, (convert 9 109 (.string ⟨#[49]⟩)).run Tryz.prog w = .ok (.slice (some ⟨w.heap.size, 0, none⟩) 1 C) W1 ∧ W1.cell? ⟨w.heap.size, 0, none⟩ = some (.int .u8 49) ∧ Below w.heap.size w W1 := by
  refine ⟨_, _, Go.Lib.run_convert_string_bytes w 9 109 5 ⟨#[49]⟩ Tryz.underlying9 Tryz.underlying109 Tryz.underlying5, Go.Lib.bytesWorld_cell w _ _ 0 (by decide), ⟨rfl, rfl, rfl, by rw [Go.Lib.bytesWorld_size]; omega, fun k hk => Go.Lib.bytesWorld_at_old w _ _ k hk⟩⟩
set_option maxRecDepth 20000 in
set_option maxHeartbeats 3200000 in
theorem atoi_1 (w : World) : Calls Tryz.prog 159 #[.string ⟨#[49]⟩] w fun e w' => e = .returned (.tuple #[.int .i64 1, .nilIface]) ∧ Below w.heap.size w w' := by
  have hb0 : ∀ h, ({ data := #[49] } : ByteArray)[0]'h = 49 := fun _ => rfl
  obtain ⟨C, W1, hcv, hc0, hbl⟩ := conv_1 w
  have HB := hidD hbl
  clear hbl
  go_enter Tryz.func159, Tryz.ntmps159
  go_wp2
  refine wp_loop_rounds 3 ?_
  rw [rounds_succ]
  go_wp2
  rw [rounds_succ]
  go_wp2
  go_ret2
  exact ⟨rfl, HB.out⟩
def day20 : ByteArray := ⟨#[50, 48, 51, 48, 45, 48, 49, 45, 48, 49]⟩
theorem parse_20 (w : World) : Calls Tryz.prog 119 #[.string day20] w fun e w' => e = .returned (.tuple #[.int .i64 47482, .int .i64 0]) ∧ Below w.heap.size w w' := by
  have h := parse_day day20 w (by unfold txtOk; decide) (by unfold okD; decide)
  rw [show dayI (parseY day20) (parseM day20) (parseD day20) = 47482 by decide] at h
  exact h
theorem whp_1 : WhP ⟨#[49]⟩ := Or.inr ⟨0, by decide, by decide, by decide, by decide, fun j h1 h2 => absurd h2 (by show ¬ j < 1; omega)⟩
set_option maxRecDepth 20000 in
theorem satoi_1 (w : World) : Calls Tryz.prog 122 #[.string ⟨#[49]⟩] w fun e w' => e = .returned (.tuple #[.int .i64 1, .nilIface]) ∧ Below w.heap.size w w' := by
  have H := hidD (atoi_1 w)
  go_enter Tryz.func122, Tryz.ntmps122
  go_wp2_with fail
  refine H.out.mono ?_
  rintro e w1 ⟨rfl, hb⟩
  have HB := hidD hb
  clear hb
  go_wp2_with fail
  go_ret2
  exact ⟨rfl, HB.out⟩
set_option maxRecDepth 20000 in
theorem int_1 (w : World) : Calls Tryz.prog 82 #[.string ⟨#[49]⟩] w fun e w' => e = .returned (.tuple #[.int .i64 1, .bool true]) ∧ Below w.heap.size w w' := by
  have H := hidD (whole_any ⟨#[49]⟩ w (by decide))
  have HA := hidD satoi_1
  go_enter Tryz.func82, Tryz.ntmps82
  go_wp2_with fail
  refine H.out.mono ?_
  rintro e w1 ⟨B, rfl, hB, rfl⟩
  obtain rfl : B = true := hB.2 whp_1
  clear hB
  go_wp2_with fail
  refine (HA.out _).mono ?_
  rintro e w2 ⟨rfl, hb⟩
  have HB := hidD hb
  clear hb
  go_wp2_with fail
  go_ret2
  exact ⟨rfl, HB.out⟩
set_option maxRecDepth 20000 in
theorem readDay_20 (w : World) : Calls Tryz.prog 80 #[.string day20] w fun e w' => e = .returned (.tuple #[.int .i64 47482, .bool true]) ∧ Below w.heap.size w w' := by
  have H := hidD (parse_20 w)
  go_enter Tryz.func80, Tryz.ntmps80
  go_wp2_with fail
  refine H.out.mono ?_
  rintro e w1 ⟨rfl, hb⟩
  have HB := hidD hb
  clear hb
  go_wp2_with fail
  go_ret2
  exact ⟨rfl, HB.out⟩
def setT (t : Trm) (i : Nat) (v : Int) : Trm := if i = 5 then { t with day := v } else if i = 6 then { t with to := v } else if i = 7 then { t with cur := v } else if i = 8 then { t with count := v } else if i = 9 then { t with n := v } else { t with months := v }
theorem TrB.setI {w : World} {g : Nat} {t : Trm} (h : TrB w g t) {i : Nat} (h5 : 5 ≤ i) (hi : i ≤ 10) (v : Int) : TrB (w.setCell ⟨g, i, none⟩ (.int .i64 v)) g (setT t i v) := by
  unfold TrB trC at h ⊢
  rcases (show i = 5 ∨ i = 6 ∨ i = 7 ∨ i = 8 ∨ i = 9 ∨ i = 10 by omega) with rfl | rfl | rfl | rfl | rfl | rfl <;> exact (heap_setCell_same w g _ _ _ _ h).trans rfl
theorem TrB.setX {w : World} {g : Nat} {t : Trm} (h : TrB w g t) (v : Nat) : TrB (w.setCell ⟨g, 3, none⟩ (.float .f64 v)) g { t with x := v } := by
  unfold TrB trC at h ⊢
  exact (heap_setCell_same w g _ _ _ _ h).trans rfl
set_option maxRecDepth 20000 in
set_option maxHeartbeats 1600000 in
theorem readWho (f b i rd wr g : Nat) (lo hi v : Int) (ok : Bool) (s : ByteArray) (ha : AcF f i) (t : Trm) (w : World) (hb : WhoB b f lo hi rd wr w) (ht : TrB w g t) (h5 : 5 ≤ i) (h10 : i ≤ 10) (en : ∀ xs w, (callFunc rd xs).run Tryz.prog w = .ok (.enter rd xs) w) (hr : ∀ wx, Below w.heap.size w wx → Calls Tryz.prog rd #[.string s] wx fun e w' => e = .returned (.tuple #[.int .i64 v, .bool ok]) ∧ Below wx.heap.size wx w') :
    Calls Tryz.prog 113 #[.pointer (some ⟨g, 0, none⟩), .string s, .pointer (some ⟨b + 3, 0, none⟩), .pointer (some ⟨b, 0, none⟩)] w fun e w' => e = .returned (.bool ok) ∧ ∃ w1, Below w.heap.size w w1 ∧ w' = w1.setCell ⟨g, i, none⟩ (.int .i64 v) := by
  obtain ⟨c0, _, _, c3, _⟩ := hb.cells
  have HR := hidD (hr w (Below.refl _ _))
  have HW := hidD (And.intro hb ht)
  have HA := hidD ha.at_
  have he := ha.en
  unfold fnB at c0 c3
  clear hb ht hr ha
  go_enter Tryz.func113, Tryz.ntmps113
  go_wp2_with fail
  refine HR.out.mono ?_
  rintro e w1 ⟨rfl, hb⟩
  have d0 := (HW.out.1.below hb).cells.1
  have ht := HW.out.2.below hb
  have dc : w1.cell? ⟨g, i, none⟩ = some (.int .i64 (tAt t i)) := by
    have h := ht
    unfold TrB at h
    simp only [World.cell?, h, Option.isSome_none, Bool.false_eq_true, if_false]
    exact trC_at t h5 h10
  have df := ht.frozen i
  have HB := hidD hb
  unfold fnB at d0
  clear hb ht c0 c3 HR
  go_wp2_with fail
  refine (HA.out _ _).mono ?_
  rintro e w2 ⟨rfl, rfl⟩
  go_wp2_with fail
  go_ret
  exact ⟨rfl, _, HB.out, rfl⟩
end Go.Proofs.YtiiajhomdpfafaaGreatDoor
namespace Go.Proofs.YtiiajhomdpfafaaGreatDoor
open Go.RowKit

def AnyL (P : Program) (md : Region.Mode) (ops : Array Oper) (Q : Exit → Act → World → Prop) (S : World → Prop) (L : Nat → Bool) : Nat → Array Bool → Act → World → Prop
  | 0, l, a, w => Region.ready md ops l = [] ∧ Q .normal a w
  | f + 1, l, a, w => (Region.ready md ops l = [] → Q .normal a w) ∧ ∀ i ∈ Region.ready md ops l, wpOp P ops Q i (fun a' w' => (L i = false → S w') ∧ AnyL P md ops Q S L f (l.setIfInBounds i true) a' w') a w

variable {P : Program} {md : Region.Mode} {ops : Array Oper} {Q : Exit → Act → World → Prop} {S : World → Prop} {L : Nat → Bool}

theorem anyL_any : ∀ (f : Nat) (l : Array Bool) (a : Act) (w : World), AnyL P md ops Q S L f l a w → wpAny P md ops Q f l a w
  | 0, _, _, _, h => h
  | f + 1, _, _, _, h => ⟨h.1, fun i hi => wpOp_mono (fun a w k => anyL_any f _ a w k.2) (h.2 i hi)⟩

def closedB (md : Region.Mode) (ops : Array Oper) (l : Array Bool) : Bool :=
  (List.range ops.size).all fun k => !l.getD k false || ((ops[k]?).map (·.after.all fun e => !Region.binds md e || l.getD e.on false)).getD true
def Closed (md : Region.Mode) (ops : Array Oper) (l : Array Bool) : Prop := ∀ k ok, ops[k]? = some ok → l.getD k false = true → ∀ e ∈ ok.after, Region.binds md e = true → l.getD e.on false = true
theorem closed_of {l : Array Bool} (h : closedB md ops l = true) : Closed md ops l := fun k ok hk hl e he hb => by
  have hm := List.all_eq_true.1 h k (List.mem_range.2 (Array.getElem?_eq_some_iff.1 hk).1)
  rw [hl, hk] at hm
  simp only [Bool.not_true, Bool.false_or, Option.map_some, Option.getD_some, Array.all_eq_true'] at hm
  have := hm e he
  rw [hb] at this
  simpa using this
theorem closed_put {l : Array Bool} {j : Nat} (h : Closed md ops l) (hj : j ∈ Region.ready md ops l) : Closed md ops (l.setIfInBounds j true) := fun k ok hk hl e he hb => by
  by_cases c : j = k
  · subst c
    obtain ⟨_, oj, hoj, hall⟩ := mem_ready.1 hj
    rw [hk] at hoj
    obtain rfl := Option.some.inj hoj
    exact getD_set_true (hall e he hb)
  · rw [getD_set_ne false c] at hl
    exact getD_set_true (h k ok hk hl e he hb)
def waitsB (md : Region.Mode) (ops : Array Oper) : Nat → Nat → Nat → Bool
  | 0, _, _ => false
  | f + 1, j, i => ((ops[j]?).map (·.after.any fun e => Region.binds md e && (e.on == i || waitsB md ops f e.on i))).getD false
theorem waits_listed {l : Array Bool} (h : Closed md ops l) {i : Nat} : ∀ (f j : Nat), waitsB md ops f j i = true → (∀ oj, ops[j]? = some oj → ∀ e ∈ oj.after, Region.binds md e = true → l.getD e.on false = true) → l.getD i false = true
  | 0, _, hw, _ => by cases hw
  | f + 1, j, hw, hd => by
    unfold waitsB at hw
    cases hj : ops[j]? with
    | none => rw [hj] at hw; cases hw
    | some oj =>
      rw [hj] at hw
      simp only [Option.map_some, Option.getD_some, Array.any_eq_true'] at hw
      obtain ⟨e, he, hb⟩ := hw
      rw [Bool.and_eq_true, Bool.or_eq_true, beq_iff_eq] at hb
      have h1 := hd oj hj e he hb.1
      rcases hb.2 with c | c
      · rw [← c]; exact h1
      · exact waits_listed h f e.on c (fun ok hk e' he' hb' => h e.on ok hk h1 e' he' hb')
def lateB (md : Region.Mode) (ops : Array Oper) (L : Nat → Bool) (i : Nat) : Bool := (List.range ops.size).all fun j => !L j || waitsB md ops 6 j i
theorem late_not {i j : Nat} {l : Array Bool} (h : lateB md ops L i = true) (hc : Closed md ops l) (hi : i ∈ Region.ready md ops l) (hj : j ∈ Region.ready md ops l) : L j = false := by
  cases hl : L j with
  | false => rfl
  | true =>
    obtain ⟨_, oj, hoj, hall⟩ := mem_ready.1 hj
    have hm := List.all_eq_true.1 h j (List.mem_range.2 (Array.getElem?_eq_some_iff.1 hoj).1)
    rw [hl] at hm
    have h1 := waits_listed hc 6 j (by simpa using hm) (fun ok hk e he hb => by
      rw [hoj] at hk
      obtain rfl := Option.some.inj hk
      exact hall e he hb)
    have h0 := (mem_ready.1 hi).1
    rcases Nat.lt_or_ge i l.size with h' | h'
    · simp [h'] at h0 h1; rw [h0] at h1; cases h1
    · simp [Array.getElem?_eq_none h'] at h1

theorem anyL_first {i : Nat} {oi : Oper} {v : Value} (hi : ops[i]? = some oi) (hs : Region.noSelect ops = true) (hl : lateB md ops L i = true) (hQ : ∀ c a w, Q (.panic c) (a.put oi.dst v) w → Q (.panic c) a w) :
    ∀ (f : Nat) (l : Array Bool) (a : Act) (w : World), Closed md ops l → (∀ j oj, ops[j]? = some oj → j ≠ i → l.getD j true = false → (∀ e ∈ oj.after, Region.binds md e = true → e.on ≠ i) → oi.apart ops oj = true) →
      i ∈ Region.ready md ops l → YieldsIf P ops S oi v a → S w → AnyL P md ops Q S L f (l.setIfInBounds i true) (a.put oi.dst v) w → AnyL P md ops Q S L (f + 1) l a w := by
  intro f
  induction f with
  | zero =>
    intro l a w _ _ hr hy hS H
    refine ⟨fun h => (by rw [h] at hr; cases hr), fun j hj => ?_⟩
    by_cases c : j = i
    · subst c; exact hy.wpOp hi hS ⟨fun _ => hS, H⟩
    · have := ready_mono hj c
      rw [H.1] at this; cases this
  | succ f ih =>
    intro l a w hcl hfree hr hy hS H
    refine ⟨fun h => (by rw [h] at hr; cases hr), fun j hj => ?_⟩
    by_cases c : j = i
    · subst c; exact hy.wpOp hi hS ⟨fun _ => hS, H⟩
    · obtain ⟨hun, oj, hoj, hall⟩ := mem_ready.1 hj
      have hno : ∀ e ∈ oj.after, Region.binds md e = true → e.on ≠ i := fun e he hb heq => by
        have h1 := hall e he hb
        have h0 := (mem_ready.1 hr).1
        rw [heq] at h1
        rcases Nat.lt_or_ge i l.size with h' | h'
        · simp [h'] at h0 h1; rw [h0] at h1; cases h1
        · simp [Array.getElem?_eq_none h'] at h1
      have hLj : L j = false := late_not hl hcl hr hj
      have h2 := wpOp_putIf hoj (hfree j oj hoj c hun hno) (fun cs b => Region.noSelect_spec hs i oi cs b hi) (fun cs b => Region.noSelect_spec hs j oj cs b hoj) hQ hy (H.2 j (ready_mono hj c))
      refine wpOp_mono (fun a' w' h3 => ⟨fun _ => h3.2.1 hLj, ih (l.setIfInBounds j true) a' w' (closed_put hcl hj) (fun k ok hk hki hu hn => hfree k ok hk hki ?_ hn) (ready_mono hr (Ne.symm c)) h3.1 (h3.2.1 hLj) ?_⟩) h2
      · by_cases hjk : j = k
        · subst hjk; exact hun
        · rw [getD_set_ne true hjk] at hu; exact hu
      · rw [Array.setIfInBounds_comm _ _ c]
        exact h3.2.2
theorem anyL_take (i : Nat) {oi : Oper} (v : Value) {f : Nat} {l : Array Bool} {a : Act} {w : World} (hi : ops[i]? = some oi) (hs : Region.noSelect ops = true) (hl : lateB md ops L i = true) (hc : closedB md ops l = true) (hf : Region.free md ops l i = true) (hr : (Region.ready md ops l).contains i = true)
    (hQ : ∀ c a w, Q (.panic c) (a.put oi.dst v) w → Q (.panic c) a w) (hw : Region.wanted oi (yielded ops a.tmps) = true) (hS : S w) (hy : ∀ w, S w → (execOp a.eval oi).run P w = .ok (.value v) w)
    (h : AnyL P md ops Q S L f (l.setIfInBounds i true) (a.put oi.dst v) w) : AnyL P md ops Q S L (f + 1) l a w :=
  anyL_first hi hs hl hQ f l a w (closed_of hc) (Region.free_spec hi hf) (by simpa using hr) (Or.inl ⟨hw, hy⟩) hS h
theorem anyL_one {i : Nat} {f : Nat} {l : Array Bool} {a : Act} {w : World} (hr : Region.ready md ops l = [i])
    (h1 : wpOp P ops Q i (fun a' w' => (L i = false → S w') ∧ AnyL P md ops Q S L f (l.setIfInBounds i true) a' w') a w) : AnyL P md ops Q S L (f + 1) l a w :=
  ⟨fun h => (by rw [hr] at h; cases h), fun k hk => by
    rw [hr] at hk
    rcases List.mem_cons.1 hk with rfl | hk
    · exact h1
    · cases hk⟩
theorem anyL_done {f : Nat} {l : Array Bool} {a : Act} {w : World} (hr : Region.ready md ops l = []) (h : Q .normal a w) : AnyL P md ops Q S L f l a w := by
  cases f with
  | zero => exact ⟨hr, h⟩
  | succ f => exact ⟨fun _ => h, by rw [hr]; simp⟩
theorem wp_region_late {id : Nat} {a : Act} {w : World} (S : World → Prop) (L : Nat → Bool) (hm : P.follows .mixedOrders = true)
    (h : AnyL P .any ops Q S L ops.size (Array.replicate ops.size false) a w.drew) : (Code.region id ops true).wp P Q a w :=
  wp_region_any hm (anyL_any _ _ _ _ h)
end Go.Proofs.YtiiajhomdpfafaaGreatDoor
namespace Go.Proofs.YtiiajhomdpfafaaGreatDoor
open Go.RowKit

theorem wrap_pow {r : Nat} (h : r < 32) : IntKind.u64.wrap (2 ^ r) = ((2 ^ r : Nat) : Int) := by
  have h3 : (2 : Nat) ^ r ≤ 2 ^ 31 := Nat.pow_le_pow_right (by decide) (by omega)
  have e1 : ((2 : Int) ^ r) = ((2 ^ r : Nat) : Int) := by rw [Int.natCast_pow]; rfl
  rw [e1, IntKind.wrap_u64]
  generalize 2 ^ r = z at *
  omega

def Half (w : World) (b n M j : Nat) : Prop := w.rowIs b 48 n (fun i => .int .u64 ((if i < j then dgt M i else 0 : Nat) : Int))
theorem half_made (w : World) (n M : Nat) : Half (w.alloc (.cells (madeCells #[.int .u64 0] n) 48)) w.heap.size n M 0 :=
  (World.rowIs_made w (.int .u64 0) n 48).congr (fun i _ => by rw [if_neg (by omega)]; rfl)
theorem half_step {w : World} {b n M j : Nat} {x : Int} (h : Half w b n M j) (hx : x = (dgt M j : Int)) : Half (w.setCell ⟨b, j, none⟩ (.int .u64 x)) b n M (j + 1) := by
  refine (h.set j (.int .u64 x)).congr fun i _ => ?_
  by_cases c : i = j
  · rw [if_pos c, if_pos (by omega), hx, c]
  · rw [if_neg c]
    by_cases d : i < j
    · rw [if_pos d, if_pos (by omega)]
    · rw [if_neg d, if_neg (by omega)]
theorem half_end {w : World} {b n M : Nat} (h : Half w b n M n) : Own w b n M := h.congr (fun i hi => by rw [if_pos hi])

end Go.Proofs.YtiiajhomdpfafaaGreatDoor
namespace Go.Proofs.YtiiajhomdpfafaaGreatDoor
open Go.RowKit

theorem digit_at (v : Value) (N k : Nat) (i : Int) (q : Int) (w : World) (h : DN w v N) (hi : Hid (i = k)) (hq : Hid ((dgt N k : Int) = q)) :
    Calls Tryz.prog 166 #[v, .int .i64 i] w fun e w' => e = .returned (.int .u64 q) ∧ w' = w := by
  rw [hi.out, ← hq.out]; exact digit_any v N k w h
theorem DN.drewN {w : World} {v : Value} {N : Nat} (h : DN w v N) (n : Nat) : DN (w.drewN n) v N := h

end Go.Proofs.YtiiajhomdpfafaaGreatDoor
namespace Go.Proofs.YtiiajhomdpfafaaGreatDoor
open Go.RowKit

def NumV (neg : Bool) (v : Value) (e : Int) : Value := .agg #[.bool neg, v, .int .i64 e]

theorem bcell {W w1 : World} (hb : Below W.heap.size W w1) : (∀ b o, b < W.heap.size → w1.cell? ⟨b, o, none⟩ = W.cell? ⟨b, o, none⟩) ∧ (∀ b o, b < W.heap.size → w1.frozen? ⟨b, o, none⟩ = W.frozen? ⟨b, o, none⟩) :=
  ⟨fun b o h => hb.cell (p := ⟨b, o, none⟩) h, fun b o h => hb.frozen (p := ⟨b, o, none⟩) h⟩

end Go.Proofs.YtiiajhomdpfafaaGreatDoor
namespace Go.Proofs.YtiiajhomdpfafaaGreatDoor
open Go.RowKit

theorem DN.shape {w : World} {v : Value} {N : Nat} (h : DN w v N) : ∃ p l c, v = .slice p l c := by
  rcases h with ⟨_, p, c, rfl⟩ | ⟨_, g, c, rfl, _⟩
  · exact ⟨p, 0, c, rfl⟩
  · exact ⟨_, _, _, rfl⟩

set_option maxHeartbeats 400000 in
theorem whole_pos (n : Int) (w : World) (h0 : 0 ≤ n) (h1 : n ≤ 9223372036854775807) :
    Calls Tryz.prog 99 #[.int .i64 n] w fun x w' => ∃ v, x = .returned (NumV false v 0) ∧ DN w' v n.toNat ∧ Below w.heap.size w w' := by
  have hu : Hid (n = (n.toNat : Int)) := by show _ = _; omega
  unfold NumV
  go_enter Tryz.func99, Tryz.ntmps99
  go_wp2_with fail
  refine (digits_as n n.toNat _ hu (by omega)).mono ?_
  rintro x w1 ⟨v1, rfl, hd1, hfr, hb1⟩
  obtain ⟨p, l, c, rfl⟩ := hd1.shape
  have HB := hide hb1
  obtain ⟨hc, hf⟩ := bcell hb1
  have hz : w.heap.size < w1.heap.size := by have := hb1.size; simp at this; omega
  have HD := fun a b c => ((hd1.set hfr (a := ⟨w.heap.size, 0, none⟩) (by simp) a).set hfr (a := ⟨w.heap.size, 1, none⟩) (by simp) b).set hfr (a := ⟨w.heap.size, 2, none⟩) (by simp) c
  have HD := hide HD
  clear hd1 hb1 hfr
  go_wp2_with fail
  refine bodyPost_ret (v := .agg #[.bool false, .slice p l c, .int .i64 0]) (by simp [results, Tryz.results99, go_sem, hc]) rfl ⟨_, rfl, HD.out _ _ _, ?_⟩
  exact ((((Below.refl w.heap.size w).alloc (Nat.le_refl _) _).trans (HB.out.mono (by simp))).setCell (Nat.le_refl _) _).setCell (Nat.le_refl _) _ |>.setCell (Nat.le_refl _) _

set_option maxHeartbeats 400000 in
theorem whole_neg (n : Int) (w : World) (h0 : n < 0) (h1 : -9223372036854775808 ≤ n) :
    Calls Tryz.prog 99 #[.int .i64 n] w fun x w' => ∃ v, x = .returned (NumV true v 0) ∧ DN w' v n.natAbs ∧ Below w.heap.size w w' := by
  have hu : Hid (-(n + 1) + 1 = (n.natAbs : Int)) := by show _ = _; omega
  unfold NumV
  go_enter Tryz.func99, Tryz.ntmps99
  go_wp2_with fail
  refine (digits_as _ n.natAbs _ hu (by omega)).mono ?_
  rintro x w1 ⟨v1, rfl, hd1, hfr, hb1⟩
  obtain ⟨p, l, c, rfl⟩ := hd1.shape
  have HB := hide hb1
  obtain ⟨hc, hf⟩ := bcell hb1
  have hz : w.heap.size < w1.heap.size := by have := hb1.size; simp at this; omega
  have HD := fun a b c => ((hd1.set hfr (a := ⟨w.heap.size, 0, none⟩) (by simp) a).set hfr (a := ⟨w.heap.size, 1, none⟩) (by simp) b).set hfr (a := ⟨w.heap.size, 2, none⟩) (by simp) c
  have HD := hide HD
  clear hd1 hb1 hfr
  go_wp2_with fail
  refine bodyPost_ret (v := .agg #[.bool true, .slice p l c, .int .i64 0]) (by simp [results, Tryz.results99, go_sem, hc]) rfl ⟨_, rfl, HD.out _ _ _, ?_⟩
  exact ((((Below.refl w.heap.size w).alloc (Nat.le_refl _) _).trans (HB.out.mono (by simp))).setCell (Nat.le_refl _) _).setCell (Nat.le_refl _) _ |>.setCell (Nat.le_refl _) _

theorem wholeN_any (n : Int) (w : World) (h0 : -9223372036854775808 ≤ n) (h1 : n ≤ 9223372036854775807) :
    Calls Tryz.prog 99 #[.int .i64 n] w fun x w' => ∃ v, x = .returned (NumV (decide (n < 0)) v 0) ∧ DN w' v n.natAbs ∧ Below w.heap.size w w' := by
  by_cases h : n < 0
  · rw [decide_eq_true h]; exact whole_neg n w h h0
  · rw [decide_eq_false h, show n.natAbs = n.toNat by omega]; exact whole_pos n w (by omega) h1

set_option maxHeartbeats 400000 in
theorem refNumber_any (u : Int) (w : World) (h : U64 u) :
    Calls Tryz.prog 65 #[.int .u64 u] w fun e w' => e = .returned (.bool (splOk u)) ∧ w' = w := by
  have hz := andNot_sz h
  go_enter Tryz.func65, Tryz.ntmps65
  go_wp2
  go_ret
  exact ⟨rfl, rfl⟩

theorem and_mant {u : Int} (h : U64 u) : bits .and .u64 u 4503599627370495 = szI u % 4503599627370496 := by
  rw [and_mask52 h.1 h.2]; unfold szI; omega
theorem and_2047 {z : Int} (h0 : 0 ≤ z) (h : z < 18446744073709551616) : bits .and .u64 z 2047 = z % 2048 := by
  obtain ⟨b, rfl⟩ := Int.eq_ofNat_of_zero_le h0
  have := bits_and_u64_nat b 2047 (by omega) (by decide)
  rw [show ((2047 : Nat) : Int) = 2047 from rfl] at this
  rw [this]
  have e := Nat.and_two_pow_sub_one_eq_mod b 11
  rw [show (2 : Nat) ^ 11 - 1 = 2047 from rfl, show (2 : Nat) ^ 11 = 2048 from rfl] at e
  rw [e]; omega

set_option maxHeartbeats 400000 in
theorem of_sub (u : Int) (w : World) (h : U64 u) (h1 : 0 < szI u) (h2 : szI u < 4503599627370496) :
    Calls Tryz.prog 165 #[.int .u64 u] w fun x w' => ∃ v, x = .returned (NumV (sgB u) v (-1074)) ∧ DN w' v (szI u).toNat ∧ Below w.heap.size w w' := by
  have hm : bits .and .u64 u 4503599627370495 = szI u := by rw [and_mant h]; omega
  have hE : bits .and .u64 (u / 4503599627370496) 2047 = 0 := by
    have := h.1; have := h.2
    rw [and_2047 (by omega) (by omega)]; unfold szI at h2; omega
  have hz0 : (szI u == 0) = false := by simp; omega
  have hu : Hid (szI u = ((szI u).toNat : Int)) := by show _ = _; omega
  have hsg : decide (9223372036854775808 ≤ u) = sgB u := rfl
  have hb2 : (szI u).toNat < 18446744073709551616 := by omega
  generalize szI u = z at h1 h2 hm hz0 hu hb2
  generalize sgB u = sg at hsg
  unfold NumV
  go_enter Tryz.func165, Tryz.ntmps165
  go_wp2_with fail
  refine (digits_as z z.toNat _ hu hb2).mono ?_
  rintro x w1 ⟨v1, rfl, hd1, hfr, hb1⟩
  obtain ⟨p, l, c, rfl⟩ := hd1.shape
  have HB := hide hb1
  obtain ⟨hc, hf⟩ := bcell hb1
  have hz : w.heap.size < w1.heap.size := by have := hb1.size; simp at this; omega
  have HD := fun a b c => ((hd1.set hfr (a := ⟨w.heap.size, 0, none⟩) (by simp) a).set hfr (a := ⟨w.heap.size, 1, none⟩) (by simp) b).set hfr (a := ⟨w.heap.size, 2, none⟩) (by simp) c
  have HD := hide HD
  clear hd1 hb1 hfr
  go_wp2_with fail
  refine bodyPost_ret (v := .agg #[.bool sg, .slice p l c, .int .i64 (-1074)]) (by simp [results, Tryz.results165, go_sem, hc]) rfl ⟨_, rfl, HD.out _ _ _, ?_⟩
  exact ((((Below.refl w.heap.size w).alloc (Nat.le_refl _) _).trans (HB.out.mono (by simp))).setCell (Nat.le_refl _) _).setCell (Nat.le_refl _) _ |>.setCell (Nat.le_refl _) _

set_option maxHeartbeats 400000 in
theorem of_normal (u : Int) (w : World) (h : U64 u) (h1 : 4503599627370496 ≤ szI u) (h2 : szI u < 9218868437227405312) :
    Calls Tryz.prog 165 #[.int .u64 u] w fun x w' => ∃ v, x = .returned (NumV (sgB u) v (szI u / 4503599627370496 - 1075)) ∧ DN w' v (4503599627370496 + szI u % 4503599627370496).toNat ∧ Below w.heap.size w w' := by
  have hm : bits .and .u64 u 4503599627370495 = szI u % 4503599627370496 := and_mant h
  have hE : bits .and .u64 (u / 4503599627370496) 2047 = szI u / 4503599627370496 := by
    have := h.1; have := h.2
    rw [and_2047 (by omega) (by omega)]; unfold szI at h2 ⊢; omega
  have hq0 : 0 < szI u / 4503599627370496 := by omega
  have hq1 : szI u / 4503599627370496 < 2047 := by omega
  have hr0 : 0 ≤ szI u % 4503599627370496 := by omega
  have hr1 : szI u % 4503599627370496 < 4503599627370496 := by omega
  have hsg : decide (9223372036854775808 ≤ u) = sgB u := rfl
  clear h1 h2
  generalize szI u % 4503599627370496 = z at hm hr0 hr1
  generalize szI u / 4503599627370496 = q at hE hq0 hq1
  generalize sgB u = sg at hsg
  have hu : Hid (z + 4503599627370496 = ((4503599627370496 + z).toNat : Int)) := by show _ = _; omega
  have hz0 : (z + 4503599627370496 == 0) = false := by simp; omega
  unfold NumV
  go_enter Tryz.func165, Tryz.ntmps165
  go_wp2_with fail
  refine (digits_as _ (4503599627370496 + z).toNat _ hu (by omega)).mono ?_
  rintro x w1 ⟨v1, rfl, hd1, hfr, hb1⟩
  obtain ⟨p, l, c, rfl⟩ := hd1.shape
  have HB := hide hb1
  obtain ⟨hc, hf⟩ := bcell hb1
  have hz : w.heap.size < w1.heap.size := by have := hb1.size; simp at this; omega
  have HD := fun a b c => ((hd1.set hfr (a := ⟨w.heap.size, 0, none⟩) (by simp) a).set hfr (a := ⟨w.heap.size, 1, none⟩) (by simp) b).set hfr (a := ⟨w.heap.size, 2, none⟩) (by simp) c
  have HD := hide HD
  clear hd1 hb1 hfr
  go_wp2_with fail
  refine bodyPost_ret (v := .agg #[.bool sg, .slice p l c, .int .i64 (q - 1075)]) (by simp [results, Tryz.results165, go_sem, hc]) rfl ⟨_, rfl, HD.out _ _ _, ?_⟩
  exact ((((Below.refl w.heap.size w).alloc (Nat.le_refl _) _).trans (HB.out.mono (by simp))).setCell (Nat.le_refl _) _).setCell (Nat.le_refl _) _ |>.setCell (Nat.le_refl _) _

theorem of_any (u : Int) (w : World) (h : U64 u) (h1 : 0 < szI u) (h2 : szI u < 9218868437227405312) :
    Calls Tryz.prog 165 #[.int .u64 u] w fun x w' => ∃ v, x = .returned (NumV (sgB u) v (plcI (szI u))) ∧ DN w' v (magI (szI u)).toNat ∧ Below w.heap.size w w' := by
  unfold plcI magI
  by_cases hc : szI u < 4503599627370496
  · rw [if_pos hc, if_pos hc]; exact of_sub u w h h1 hc
  · rw [if_neg hc, if_neg hc]; exact of_normal u w h (by omega) h2

set_option maxHeartbeats 800000 in
theorem refSplit_in (u m E : Int) (sg : Bool) (w : World) (h : U64 u) (h1 : 0 < szI u) (h2 : Hid (szI u < 9218868437227405312)) (hm : Hid (magI (szI u) = m)) (hE : Hid (plcI (szI u) = E)) (hsg : Hid (sgB u = sg)) (hok : splOk u = true) :
    Calls Tryz.prog 133 #[.int .u64 u] w fun x w' => x = .returned (.tuple #[.int .i64 (if sg then -m else m), .int .i64 E, .bool true]) ∧ Below w.heap.size w w' := by
  have hz0 : (szI u == 0) = false := by simp; omega
  have hm0 : 0 ≤ m ∧ m < 9007199254740992 := by rw [← hm.out]; unfold magI; split <;> omega
  have hd2 := two_digits (K := m.toNat) (by omega)
  have b0 := dgt_lt m.toNat 0
  have b1 : dgt m.toNat 1 ≤ 2097152 := by omega
  generalize hq0 : dgt m.toNat 0 = q0 at hd2 b0
  generalize hq1 : dgt m.toNat 1 = q1 at hd2 b1
  have HD0 : Hid ((dgt m.toNat 0 : Int) = q0) := by show _ = _; rw [hq0]
  have HD1 : Hid ((dgt m.toNat 1 : Int) = q1) := by show _ = _; rw [hq1]
  clear hq0 hq1
  have hsum : (q0 : Int) + (q1 : Int) * 4294967296 = m := by omega
  obtain ⟨hm1, hm2⟩ := hm0
  have w3 : IntKind.u64.wrap ((q1 : Int) * 4294967296) = (q1 : Int) * 4294967296 := by rw [IntKind.wrap_u64]; omega
  have w4 : IntKind.u64.wrap m = m := by rw [IntKind.wrap_u64]; omega
  have w5 : IntKind.i64.wrap m = m := by rw [IntKind.wrap_i64]; omega
  clear hd2
  have HOf : Hid (∀ w, Calls Tryz.prog 165 #[.int .u64 u] w fun x w' => ∃ v, x = .returned (.agg #[.bool sg, v, .int .i64 E]) ∧ DN w' v m.toNat ∧ Below w.heap.size w w') := fun w => by
    have := of_any u w h h1 h2.out
    rw [hm.out, hE.out, hsg.out] at this; exact this
  cases sg
  all_goals
    simp only [Bool.false_eq_true, if_true, if_false]
    go_enter Tryz.func133, Tryz.ntmps133
    go_wp2_with (first | (go_at_call 65; refine (refNumber_any _ _ h).mono ?_; rintro x w' ⟨rfl, rfl⟩) | (go_at_call 134; refine (refSize_any _ _ h).mono ?_; rintro x w' ⟨rfl, rfl⟩))
    refine (HOf.out _).mono ?_
    rintro x w1 ⟨v1, rfl, hd1, hb1⟩
    obtain ⟨p, l, c, rfl⟩ := hd1.shape
    have HB := hide hb1
    have HDN : Hid (∀ o n, DN ((w1.alloc o).drewN n) (.slice p l c) m.toNat) := fun o n => hd1.below (below_drewN ((Below.refl _ _).alloc (Nat.le_refl _) o) n)
    clear hd1 hb1
    go_wp2_with fail
    go_quiet ((first | (go_at_call_of 166 (Value.int IntKind.i64 0); exact Calls.quiet_of_same (digit_at _ _ 0 0 _ _ (HDN.out _ _) rfl HD0)) | (go_at_call_of 166 (Value.int IntKind.i64 1); exact Calls.quiet_of_same (digit_at _ _ 1 1 _ _ (HDN.out _ _) rfl HD1))))
    go_wp2_with fail
    go_quiet (fail)
    go_wp2_with fail
    go_ret3
    exact ⟨rfl, below_drewN (below_drewN (HB.out.alloc HB.out.size _) _) _⟩

set_option maxHeartbeats 400000 in
theorem refSplit_out (u : Int) (ok : Bool) (w : World) (h : U64 u) (hok : splOk u = ok) (hz : ok = true → (szI u == 0) = true) :
    Calls Tryz.prog 133 #[.int .u64 u] w fun x w' => x = .returned (.tuple #[.int .i64 0, .int .i64 0, .bool ok]) ∧ w' = w := by
  cases ok
  · go_enter Tryz.func133, Tryz.ntmps133
    go_wp2_with (first | (go_at_call 65; refine (refNumber_any _ _ h).mono ?_; rintro x w' ⟨rfl, rfl⟩) | (go_at_call 134; refine (refSize_any _ _ h).mono ?_; rintro x w' ⟨rfl, rfl⟩))
    go_ret3
    exact ⟨rfl, rfl⟩
  · have hz0 := hz rfl
    clear hz
    go_enter Tryz.func133, Tryz.ntmps133
    go_wp2_with (first | (go_at_call 65; refine (refNumber_any _ _ h).mono ?_; rintro x w' ⟨rfl, rfl⟩) | (go_at_call 134; refine (refSize_any _ _ h).mono ?_; rintro x w' ⟨rfl, rfl⟩))
    go_ret3
    exact ⟨rfl, rfl⟩

theorem refSplit_any (u : Int) (w : World) (h : U64 u) :
    Calls Tryz.prog 133 #[.int .u64 u] w fun x w' => x = .returned (.tuple #[.int .i64 (splM u), .int .i64 (splE u), .bool (splOk u)]) ∧ Below w.heap.size w w' := by
  have hl := szI_lo u
  cases hok : splOk u
  · rw [show splM u = 0 by simp [splM, hok], show splE u = 0 by simp [splE, hok]]
    refine (refSplit_out u false w h hok (fun h => by cases h)).mono ?_
    rintro x w' ⟨rfl, rfl⟩; exact ⟨rfl, Below.refl _ _⟩
  · by_cases hz : szI u = 0
    · rw [show splM u = 0 by unfold splM magI; rw [hz]; simp, show splE u = 0 by unfold splE; rw [hz]; simp]
      refine (refSplit_out u true w h hok (fun _ => by rw [hz]; rfl)).mono ?_
      rintro x w' ⟨rfl, rfl⟩; exact ⟨rfl, Below.refl _ _⟩
    · have h2 : szI u < 9218868437227405312 := of_decide_eq_true hok
      rw [show splM u = (if sgB u then -magI (szI u) else magI (szI u)) by simp [splM, hok], show splE u = plcI (szI u) by simp [splE, hok, hz]]
      exact refSplit_in u _ _ _ w h (by omega) h2 rfl rfl rfl hok

end Go.Proofs.YtiiajhomdpfafaaGreatDoor
namespace Go.Proofs.YtiiajhomdpfafaaGreatDoor
open Go.RowKit

theorem DN.form {w : World} {v : Value} {N : Nat} (h : DN w v N) : ∃ p c, v = .slice p (nd N) c := by
  rcases h with ⟨h0, p, c, rfl⟩ | ⟨h0, g, c, rfl, _⟩
  · exact ⟨p, c, by rw [h0]; rfl⟩
  · exact ⟨_, _, rfl⟩

set_option maxRecDepth 10000 in
set_option maxHeartbeats 800000 in
theorem addDigits_form (p q : Option Addr) (c d m n L A B : Nat) (w : World) (hA : Hid (DN w (.slice p m c) A)) (hB : Hid (DN w (.slice q n d) B)) (hL : max (m : Int) (n : Int) = (L : Int)) (hm : m ≤ 10000000) (hn : n ≤ 10000000) (hA2 : Hid (A < 2 ^ (32 * m))) (hB2 : Hid (B < 2 ^ (32 * n))) :
    Calls Tryz.prog 170 #[.slice p m c, .slice q n d] w fun e w' => ∃ v, e = .returned v ∧ DN w' v (A + B) ∧ From w.heap.size v ∧ Below w.heap.size w w' := by
  have hL1 : m ≤ L := by omega
  have hL2 : n ≤ L := by omega
  have hL3 : L ≤ 10000000 := by omega
  have hmk := fun w => run_make_row' (P := Tryz.prog) 150 48 (.int .u64 0) 8 Tryz.underlying150 info_u64 rfl .i64 .i64 (L + 1) (by omega) (by omega) w
  have ec : ((L + 1 : Nat) : Int) = (L : Int) + 1 := by omega
  rw [ec] at hmk
  clear ec
  have HO := hide (half_made w (L + 1) (A + B))
  go_enter Tryz.func170, Tryz.ntmps170
  go_wp2_with fail
  go_loopw [7, 8] (fun s i wr => ∃ k c : Nat, k ≤ L + 1 ∧ c ≤ 1 ∧ i = .int .i64 k ∧ s = .int .u64 c ∧ Hid (c = cry A B k) ∧ Hid (Half wr w.heap.size (L + 1) (A + B) k) ∧ Hid (Below w.heap.size w wr)) (fun _ i _ => L + 1 - (intOf i).toNat)
  case atStart => exact ⟨0, 0, Nat.zero_le _, Nat.zero_le _, rfl, rfl, (cry_zero A B).symm, HO, (Below.refl _ _).alloc (Nat.le_refl _) _⟩
  case round =>
    clear HO hmk
    obtain ⟨k, x, hk, hx, rfl, rfl, HC, HH, HB⟩ := hrel
    by_cases hlt : k < L + 1
    · have H1 := hide (digit_any _ A k wr (hA.out.below HB.out))
      have H2 := hide (digit_any _ B k wr (hB.out.below HB.out))
      have b1 := dgt_lt A k
      have b2 := dgt_lt B k
      have h1 := HH.out.cell (i := k) (by omega)
      have f1 := HH.out.frozen k
      have HS := hide fun a b (ha : a = dgt A k) (hb : b = dgt B k) => add_round (s := a + b + x) ha hb HC.out rfl
      generalize hD : dgt A k = a at H1 b1
      generalize hE : dgt B k = b at H2 b2
      have HS := hide (HS.out a b hD.symm hE.symm)
      clear hD hE
      go_wp2_with fail
      refine H1.out.mono ?_
      rintro e w' ⟨rfl, rfl⟩
      go_wp2_with fail
      refine H2.out.mono ?_
      rintro e w' ⟨rfl, rfl⟩
      go_wp2_with fail
      go_roundw
      case rel => exact ⟨k + 1, (a + b + x) / 4294967296, by omega, by omega, by go_num, by go_num, HS.out.2, half_step HH.out (by rw [← HS.out.1]; omega), HB.out.setCell (Nat.le_refl _) _⟩
      case measure => simp [intOf]; omega
    · obtain rfl : k = L + 1 := by omega
      have HO2 := hide (half_end HH.out)
      have hM : Hid (A + B < 2 ^ (32 * (L + 1))) := sum_lt hA2.out hB2.out (by omega) (by omega)
      have hlt2 := HO2.out.lt
      have HD := hide (dn_mk HO2.out.row hM.out (Nat.le_refl _) hlt2)
      go_wp2_with fail
      refine (trim_row _ _ _ _ _ HO2.out.row hM.out (Nat.le_refl _) (by omega)).mono ?_
      rintro e w' ⟨rfl, rfl⟩
      go_wp2_with fail
      go_ret
      exact ⟨_, rfl, HD.out, from_at _ _ _ _ (Nat.le_refl _), HB.out⟩

theorem addDigits_any (u v : Value) (A B : Nat) (w : World) (hA : DN w u A) (hB : DN w v B) (ha : nd A ≤ 10000000) (hb : nd B ≤ 10000000) :
    Calls Tryz.prog 170 #[u, v] w fun e w' => ∃ v, e = .returned v ∧ DN w' v (A + B) ∧ From w.heap.size v ∧ Below w.heap.size w w' := by
  obtain ⟨p, c, rfl⟩ := hA.form
  obtain ⟨q, d, rfl⟩ := hB.form
  exact addDigits_form p q c d (nd A) (nd B) (max (nd A) (nd B)) A B w hA hB (by omega) ha hb (nd_lt A) (nd_lt B)

set_option maxRecDepth 10000 in
set_option maxHeartbeats 400000 in
theorem subDigits_nil (p : Option Addr) (c : Nat) (v : Value) (w : World) :
    Calls Tryz.prog 172 #[.slice p 0 c, v] w fun e w' => ∃ v, e = .returned v ∧ DN w' v 0 ∧ From w.heap.size v ∧ Below w.heap.size w w' := by
  have hmk := fun w => run_make_row' (P := Tryz.prog) 150 48 (.int .u64 0) 8 Tryz.underlying150 info_u64 rfl .i64 .i64 0 (by omega) (by omega) w
  rw [show ((0 : Nat) : Int) = 0 from rfl] at hmk
  go_enter Tryz.func172, Tryz.ntmps172
  go_wp2_with fail
  go_loopw [6, 7] (fun s i wr => i = .int .i64 0 ∧ s = .int .u64 0 ∧ Hid (Below w.heap.size w wr)) (fun _ _ _ => 0)
  case atStart => exact ⟨rfl, rfl, (Below.refl _ _).alloc (Nat.le_refl _) _⟩
  case round =>
    obtain ⟨rfl, rfl, HB⟩ := hrel
    go_wp2_with fail
    refine (trim_row w.heap.size 0 0 0 _ (fun i hi => absurd hi (by omega)) (by decide) (Nat.le_refl _) (by omega)).mono ?_
    rintro e w' ⟨rfl, rfl⟩
    go_wp2_with fail
    go_ret
    exact ⟨_, rfl, Or.inl ⟨rfl, _, _, rfl⟩, from_at _ _ _ _ (Nat.le_refl _), HB.out⟩

set_option maxRecDepth 10000 in
set_option maxHeartbeats 800000 in
theorem subDigits_row (g : Nat) (v : Value) (c m B D : Nat) (w : World) (hrow : Hid (RowIs w g m (B + D))) (hg : g < w.heap.size) (hB : Hid (DN w v B)) (hm : m ≤ 10000000) (hA2 : Hid (B + D < 2 ^ (32 * m))) :
    Calls Tryz.prog 172 #[.slice (some ⟨g, 0, none⟩) m c, v] w fun e w' => ∃ v, e = .returned v ∧ DN w' v D ∧ From w.heap.size v ∧ Below w.heap.size w w' := by
  have hmk := fun w => run_make_row' (P := Tryz.prog) 150 48 (.int .u64 0) 8 Tryz.underlying150 info_u64 rfl .i64 .i64 m (by omega) (by omega) w
  have HO := hide (half_made w m D)
  go_enter Tryz.func172, Tryz.ntmps172
  go_wp2_with fail
  go_loopw [6, 7] (fun s i wr => ∃ k c : Nat, k ≤ m ∧ c ≤ 1 ∧ i = .int .i64 k ∧ s = .int .u64 c ∧ Hid (c = cry B D k) ∧ Hid (Half wr w.heap.size m D k) ∧ Hid (Below w.heap.size w wr)) (fun _ i _ => m - (intOf i).toNat)
  case atStart => exact ⟨0, 0, Nat.zero_le _, Nat.zero_le _, rfl, rfl, (cry_zero B D).symm, HO, (Below.refl _ _).alloc (Nat.le_refl _) _⟩
  case round =>
    clear HO hmk
    obtain ⟨k, x, hk, hx, rfl, rfl, HC, HH, HB⟩ := hrel
    by_cases hlt : k < m
    · have hc : wr.cell? ⟨g, k, none⟩ = some (.int .u64 (dgt (B + D) k : Int)) := (HB.out.cell (p := ⟨g, k, none⟩) hg).trans (hrow.out k hlt)
      have H2 := hide fun q => digit_any _ B k (wr.drewN q) (hB.out.below (below_drewN HB.out q))
      have b1 := dgt_lt (B + D) k
      have b2 := dgt_lt B k
      have h1 := HH.out.cell (i := k) (by omega)
      have f1 := HH.out.frozen k
      have HS := hide (sub_round (k := k) rfl rfl HC.out)
      generalize dgt (B + D) k = a at hc b1 HS
      generalize dgt B k = b at H2 b2 HS
      have hle := HS.out.1
      have hle2 := HS.out.2.2.1
      have w1 : IntKind.u64.wrap ((a : Int) + 4294967296) = (a : Int) + 4294967296 := by rw [IntKind.wrap_u64]; omega
      have w2 : IntKind.u64.wrap ((a : Int) + 4294967296 - (b : Int)) = (a : Int) + 4294967296 - (b : Int) := by rw [IntKind.wrap_u64]; omega
      have w3 : IntKind.u64.wrap ((a : Int) + 4294967296 - (b : Int) - (x : Int)) = ((a + 4294967296 - b - x : Nat) : Int) := by rw [IntKind.wrap_u64]; omega
      have hs : a + 4294967296 - b - x < 8589934592 := by omega
      generalize a + 4294967296 - b - x = s at w3 HS hle2 hs
      go_wp2_with fail
      go_quiet ((go_at_call 166; exact Calls.quiet_of_same (H2.out _)))
      go_wp2_with fail
      go_roundw
      case rel => exact ⟨k + 1, 1 - s / 4294967296, by omega, by omega, by go_num, by go_num, HS.out.2.2.2, half_step (w := wr.drewN nq) HH.out (by rw [← HS.out.2.1]; omega), (below_drewN HB.out _).setCell (Nat.le_refl _) _⟩
      case measure => simp [intOf]; omega
    · obtain rfl : k = m := by omega
      have HO2 := hide (half_end HH.out)
      have hM : Hid (D < 2 ^ (32 * k)) := by show _ < _; have := hA2.out; omega
      have hlt2 := HO2.out.lt
      have HD := hide (dn_mk HO2.out.row hM.out (Nat.le_refl _) hlt2)
      go_wp2_with fail
      refine (trim_row _ _ _ _ _ HO2.out.row hM.out (Nat.le_refl _) (by omega)).mono ?_
      rintro e w' ⟨rfl, rfl⟩
      go_wp2_with fail
      go_ret
      exact ⟨_, rfl, HD.out, from_at _ _ _ _ (Nat.le_refl _), HB.out⟩

theorem subDigits_any (u v : Value) (A B : Nat) (w : World) (hA : DN w u A) (hB : DN w v B) (ha : nd A ≤ 10000000) (hle : B ≤ A) :
    Calls Tryz.prog 172 #[u, v] w fun e w' => ∃ v, e = .returned v ∧ DN w' v (A - B) ∧ From w.heap.size v ∧ Below w.heap.size w w' := by
  obtain ⟨D, rfl⟩ : ∃ D, A = B + D := ⟨A - B, by omega⟩
  rw [Nat.add_sub_cancel_left]
  rcases hA with ⟨h0, p, c, rfl⟩ | ⟨h0, g, c, rfl, hc, hg, hr⟩
  · rw [show D = 0 by omega]; exact subDigits_nil p c v w
  · exact subDigits_row g v c (nd (B + D)) B D w hr hg hB ha (nd_lt _)

theorem cmpDigits_len (p q : Option Addr) (m n c d A B : Nat) (w : World) (hA : Hid (nd A = m)) (hB : Hid (nd B = n)) (hne : m ≠ n) :
    Calls Tryz.prog 171 #[.slice p m c, .slice q n d] w fun e w' => e = .returned (.int .i64 (cmpN A B)) ∧ ∃ q, w' = w.drewN q := by
  rcases Nat.lt_or_gt_of_ne hne with h | h
  · have e : cmpN A B = -1 := cmpN_lt (nd_lt_lt (by rw [hA.out, hB.out]; exact h))
    rw [e]
    go_enter Tryz.func171, Tryz.ntmps171
    go_wp2
    go_ret
    exact ⟨rfl, 0, rfl⟩
  · have e : cmpN A B = 1 := cmpN_gt (nd_lt_lt (by rw [hA.out, hB.out]; exact h))
    rw [e]
    go_enter Tryz.func171, Tryz.ntmps171
    go_wp2
    go_ret
    exact ⟨rfl, 0, rfl⟩

theorem top_zero {A n : Nat} (h : A < 2 ^ (32 * n)) : A / 2 ^ (32 * n) = 0 := Nat.div_eq_of_lt h

set_option maxHeartbeats 800000 in
theorem cmpDigits_row (g f n c d A B : Nat) (w : World) (hrA : Hid (RowIs w g n A)) (hrB : Hid (RowIs w f n B)) (hA : Hid (A < 2 ^ (32 * n))) (hB : Hid (B < 2 ^ (32 * n))) (hn : n ≤ 10000000) :
    Calls Tryz.prog 171 #[.slice (some ⟨g, 0, none⟩) n c, .slice (some ⟨f, 0, none⟩) n d] w fun e w' => e = .returned (.int .i64 (cmpN A B)) ∧ ∃ q, w' = w.drewN q := by
  go_enter Tryz.func171, Tryz.ntmps171
  go_wp2_with fail
  go_loopw [5] (fun i wr => ∃ k : Nat, k ≤ n ∧ i = .int .i64 ((k : Int) - 1) ∧ Hid (A / 2 ^ (32 * k) = B / 2 ^ (32 * k)) ∧ Hid (∃ q, wr = w.drewN q)) (fun i _ => (intOf i + 1).toNat)
  case atStart => exact ⟨n, Nat.le_refl _, rfl, by show _ = _; rw [top_zero hA.out, top_zero hB.out], 0, rfl⟩
  case round =>
    obtain ⟨k, hk, rfl, HE, HQ⟩ := hrel
    cases k with
    | zero =>
      have e : cmpN A B = 0 := cmpN_eq (by have := HE.out; rw [Nat.mul_zero, Nat.pow_zero, Nat.div_one, Nat.div_one] at this; exact this)
      have E := hide e.symm
      clear e
      go_wp2_with fail
      go_ret
      exact ⟨ret_int E.out, HQ.out⟩
    | succ j =>
      have e1 : ((j + 1 : Nat) : Int) - 1 = (j : Int) := by omega
      rw [e1]
      have hc1 : wr.cell? ⟨g, j, none⟩ = some (.int .u64 (dgt A j : Int)) := by obtain ⟨q, rfl⟩ := HQ.out; exact hrA.out j (by omega)
      have hc2 : wr.cell? ⟨f, j, none⟩ = some (.int .u64 (dgt B j : Int)) := by obtain ⟨q, rfl⟩ := HQ.out; exact hrB.out j (by omega)
      clear e1
      have H1 := hide fun h => cmpN_lt (lt_of_top HE.out h)
      have H2 := hide fun h => cmpN_gt (lt_of_top HE.out.symm h)
      have H3 := hide fun h => eq_of_top HE.out h
      generalize dgt A j = a at hc1 H1 H2 H3
      generalize dgt B j = b at hc2 H1 H2 H3
      clear HE
      rcases Nat.lt_trichotomy a b with h | h | h
      · have e := H1.out h
        have E := hide e.symm
        clear e H1 H2 H3
        go_wp2_with fail
        go_quiet (fail)
        go_wp2_with fail
        go_ret
        refine ⟨ret_int E.out, ?_⟩
        obtain ⟨q, rfl⟩ := HQ.out; exact ⟨_, World.drewN_drewN _ _ _⟩
      · have H4 := hide (H3.out h)
        clear H1 H2 H3
        subst h
        go_wp2_with fail
        go_quiet (fail)
        go_wp2_with fail
        go_quiet (fail)
        go_wp2_with fail
        go_roundw
        case rel =>
          refine ⟨j, by omega, by go_num, H4, ?_⟩
          obtain ⟨q, rfl⟩ := HQ.out
          exact ⟨_, by first | exact World.drewN_drewN _ _ _ | rw [World.drewN_drewN, World.drewN_drewN]⟩
        case measure => simp [intOf]
      · have e := H2.out h
        have E := hide e.symm
        clear e H1 H2 H3
        go_wp2_with fail
        go_quiet (fail)
        go_wp2_with fail
        go_quiet (fail)
        go_wp2_with fail
        go_ret
        refine ⟨ret_int E.out, ?_⟩
        obtain ⟨q, rfl⟩ := HQ.out; exact ⟨_, by first | exact World.drewN_drewN _ _ _ | rw [World.drewN_drewN, World.drewN_drewN]⟩

set_option maxHeartbeats 800000 in
theorem cmpDigits_nil (p q : Option Addr) (c d : Nat) (w : World) :
    Calls Tryz.prog 171 #[.slice p 0 c, .slice q 0 d] w fun e w' => e = .returned (.int .i64 0) ∧ ∃ q, w' = w.drewN q := by
  go_enter Tryz.func171, Tryz.ntmps171
  go_wp2_with fail
  go_loop [5] (fun i => i = .int .i64 (-1)) (fun _ => 0)
  case atStart => rfl
  case round =>
    subst hrel
    go_wp2_with fail
    go_ret
    exact ⟨rfl, 0, rfl⟩

theorem cmpDigits_any (u v : Value) (A B : Nat) (w : World) (hA : DN w u A) (hB : DN w v B) (ha : nd A ≤ 10000000) :
    Calls Tryz.prog 171 #[u, v] w fun e w' => e = .returned (.int .i64 (cmpN A B)) ∧ ∃ q, w' = w.drewN q := by
  by_cases hne : nd A = nd B
  · rcases hA with ⟨h0, p, c, rfl⟩ | ⟨h0, g, c, rfl, hc, hg, hr⟩
    · rcases hB with ⟨h1, q, d, rfl⟩ | ⟨h1, f, d, rfl, hd, hf, hs⟩
      · rw [cmpN_eq (h0.trans h1.symm)]; exact cmpDigits_nil p q c d w
      · exfalso; have h2 := nd_pos h1; rw [h0, nd_zero] at hne; omega
    · rcases hB with ⟨h1, q, d, rfl⟩ | ⟨h1, f, d, rfl, hd, hf, hs⟩
      · exfalso; have h2 := nd_pos h0; rw [h1, nd_zero] at hne; omega
      · rw [← hne] at hs ⊢
        exact cmpDigits_row g f (nd A) c d A B w hr hs (nd_lt A) (by show _ < _; rw [hne]; exact nd_lt B) ha
  · obtain ⟨p, c, rfl⟩ := hA.form
    obtain ⟨q, d, rfl⟩ := hB.form
    exact cmpDigits_len p q _ _ c d A B w rfl rfl hne

end Go.Proofs.YtiiajhomdpfafaaGreatDoor
