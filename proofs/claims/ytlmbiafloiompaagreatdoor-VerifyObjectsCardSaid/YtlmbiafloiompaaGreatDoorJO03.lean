/-
  DERIVED: THE SHELF's CONTRACTS AT THIS DUMP,IN PLAIN WORDS (tools/lay-plain.mjs out of 'TryzShelf.lean',which tools/lay-shelf.mjs wrote): THE SAME DECLARATIONS UNDER THE SAME NAMES: 'import','namespace','open','def','theorem' AND NOTHING ELSE: no command of the shelf's: FOR A HAND-IN. Each laying: the table of numbers ('.._ren') and one theorem,a field a fact of the dump's own or the kernel's comparison;each contract: ONE APPLICATION.
-/
import Derived.Shelf.Strings.Builder1
import Derived.Shelf.Strings.Builder2
import Derived.Shelf.Strings.OnBuilder
import Derived.Shelf.Strings.Trim
import Derived.Shelf.Small.Bits
import Derived.Shelf.Small.Strs
import Derived.Shelf.Small.Wraps
import Derived.Shelf.Strconv.Atoi
import Derived.Shelf.Strconv.Itoa0
import Derived.Shelf.Strconv.Itoa1
import Derived.Shelf.LaysM
import Derived.Shelf.Strconv.Itoa2
import Derived.Shelf.Strconv.Itoa3
import Derived.Shelf.Strconv.AtoiErrFast
import Derived.Shelf.Strconv.ParseIntEmpty
import Derived.Shelf.Strconv.AtoiFail
import Derived.Shelf.Strconv.Clone
import Derived.Shelf.Strconv.SyntaxError
import Derived.Shelf.LaysC
import Derived.Shelf.Strconv.ToError
import Derived.Shelf.Strconv.Lower
import Derived.Shelf.Strconv.ParseUint10
import Derived.Shelf.Strconv.ParseUint10Empty
import Derived.Shelf.Strconv.ParseUint10Any
import Derived.Shelf.Strconv.ParseInt10
import Derived.Shelf.Strconv.AtoiLong
import Derived.Shelf.Strconv.AtoiInnerAll
import Derived.Shelf.Strconv.RangeError
import Derived.Shelf.Strconv.ToErrorRange
import Derived.Shelf.Strconv.AtoiAll
import Derived.Shelf.Strconv.ErrVarAll
import Derived.Shelf.Strings.Search1
import Derived.Shelf.Strings.Search2
import Derived.Shelf.Strings.Search3
import Derived.Shelf.Strings.Cut
import Derived.Shelf.Strings.Count
import Derived.Shelf.Strings.Shaped
import Derived.Shelf.Strings.Prefix
import Derived.Shelf.Strings.Split
import Derived.Shelf.Strings.SplitShaped
import Derived.Shelf.Strings.Runes
import Derived.Shelf.Strings.AsciiSet
import Derived.Test.YtlmbiafloiompaaGreatDoorProg
namespace Go.Proofs
open Go.Shelf
def Tryz.lays156_ren:Go.Shelf.Ren:=⟨fun | 156=>84 | 165=>113 | 166=>114 | 169=>115 | 240=>143 | 241=>144 | 276=>167 | 277=>168 | n=>n,fun | 31=>22 | 9=>9 | 3=>3 | 4=>4 | 0=>0 | 20=>20 | 72=>194 | 76=>198 | 70=>191 | 37=>192 | 75=>197 | 127=>213 | 164=>237 | 5=>5 | 80=>200 | n=>n,fun | n=>n⟩
theorem Tryz.lays156:Go.Proofs.Lays.n156 Tryz.prog Tryz.lays156_ren:={
  mixed:=by kernel_rfl
  f156:=Tryz.func84.trans (congrArg some (by kernel_rfl))
  f165:=Tryz.func113.trans (congrArg some (by kernel_rfl))
  f166:=Tryz.func114.trans (congrArg some (by kernel_rfl))
  f169:=Tryz.func115.trans (congrArg some (by kernel_rfl))
  f240:=Tryz.func143.trans (congrArg some (by kernel_rfl))
  f241:=Tryz.func144.trans (congrArg some (by kernel_rfl))
  f276:=Tryz.func167.trans (congrArg some (by kernel_rfl))
  f277:=Tryz.func168.trans (congrArg some (by kernel_rfl))
  t0:=Tryz.underlying0
  a0:=Tryz.isAgg0
  z0:=Tryz.sizeOf0
  v0:=Tryz.zeroValue0
  t3:=Tryz.underlying3
  a3:=Tryz.isAgg3
  z3:=Tryz.sizeOf3
  v3:=Tryz.zeroValue3
  t4:=Tryz.underlying4
  a4:=Tryz.isAgg4
  z4:=Tryz.sizeOf4
  v4:=Tryz.zeroValue4
  t9:=Tryz.underlying9
  a9:=Tryz.isAgg9
  z9:=Tryz.sizeOf9
  v9:=Tryz.zeroValue9
  t20:=Tryz.underlying20
  a20:=Tryz.isAgg20
  z20:=Tryz.sizeOf20
  v20:=Tryz.zeroValue20
  t31:=Tryz.underlying22
  a31:=Tryz.isAgg22
  z31:=Tryz.sizeOf22
  v31:=Tryz.zeroValue22
  t37:=Tryz.underlying192
  a37:=Tryz.isAgg192
  z37:=Tryz.sizeOf192
  v37:=Tryz.zeroValue192
  t70:=Tryz.underlying191
  a70:=Tryz.isAgg191
  z70:=Tryz.sizeOf191
  v70:=Tryz.zeroValue191
  t72:=Tryz.underlying194
  a72:=Tryz.isAgg194
  z72:=Tryz.sizeOf194
  v72:=Tryz.zeroValue194
  t75:=Tryz.underlying197
  a75:=Tryz.isAgg197
  z75:=Tryz.sizeOf197
  v75:=Tryz.zeroValue197
  t76:=Tryz.underlying198
  a76:=Tryz.isAgg198
  z76:=Tryz.sizeOf198
  v76:=Tryz.zeroValue198
  t127:=Tryz.underlying213
  a127:=Tryz.isAgg213
  z127:=Tryz.sizeOf213
  v127:=Tryz.zeroValue213
  t164:=Tryz.underlying237
  a164:=Tryz.isAgg237
  z164:=Tryz.sizeOf237
  v164:=Tryz.zeroValue237 }
theorem Tryz.Builder_Extra_156:Builder.Extra Tryz.prog Tryz.lays156_ren:={
  sizeBuilder:=by kernel_rfl
  liesBuilder:=by kernel_rfl
  t5:=Tryz.underlying5
  a5:=Tryz.isAgg5
  z5:=Tryz.sizeOf5
  v5:=Tryz.zeroValue5
  infoByte:=by kernel_rfl
  cellsByte:=by kernel_rfl
  sizeByte:=by kernel_rfl
  neB5:=by decide }
open Go.RowKit in
/-- strings.Join: "Join concatenates the elements of its first argument to create a single string. The separator string sep is placed between elements in the resulting string.": HOWEVER MANY ELEMENTS. Below the heap's end the world is as it was. (LAID: no walk: one application.) -/
theorem Tryz.strings_Join (bk o c:Nat) (xs:List ByteArray) (sep:ByteArray) (w:World) (hcells:∀ (j:Nat) x,xs[j]?=some x→w.cell? ⟨bk,o+j,none⟩=some (.string x)) (hbk:bk<w.heap.size) (hN:xs.length≤140737488355328) (hcap:xs.length≤c) (hlen:(Lib.join (xs.map (·.data.toList)) sep.data.toList).length≤140737488355328) :
    Calls Tryz.prog 84 #[.slice (some ⟨bk,o,none⟩) xs.length c,.string sep] w fun e w'=>e=.returned (.string ⟨(Lib.join (xs.map (·.data.toList)) sep.data.toList).toArray⟩)∧Below w.heap.size w w':=Any.strings_Join Tryz.lays156 Tryz.Builder_Extra_156 bk o c xs sep w hcells hbk hN hcap hlen
def Tryz.lays161_ren:Go.Shelf.Ren:=⟨fun | 161=>141 | 231=>163 | 227=>164 | 233=>165 | 235=>166 | 228=>185 | 197=>161 | 151=>186 | 260=>184 | 152=>197 | 137=>204 | 119=>205 | 224=>176 | 225=>175 | 217=>174 | 266=>188 | n=>n,fun | 9=>9 | 4=>4 | 3=>3 | 5=>5 | 117=>233 | 116=>232 | 0=>0 | 124=>236 | 105=>227 | 21=>21 | 119=>268 | 46=>204 | 139=>271 | 138=>270 | n=>n,fun | 3=>4 | 4=>5 | n=>n⟩
theorem Tryz.lays161:Go.Proofs.Lays.n161 Tryz.prog Tryz.lays161_ren:={
  mixed:=by kernel_rfl
  f119:=Tryz.func205.trans (congrArg some (by kernel_rfl))
  f137:=Tryz.func204.trans (congrArg some (by kernel_rfl))
  f151:=Tryz.func186.trans (congrArg some (by kernel_rfl))
  f152:=Tryz.func197.trans (congrArg some (by kernel_rfl))
  f161:=Tryz.func141.trans (congrArg some (by kernel_rfl))
  f197:=Tryz.func161.trans (congrArg some (by kernel_rfl))
  f217:=Tryz.func174.trans (congrArg some (by kernel_rfl))
  f224:=Tryz.func176.trans (congrArg some (by kernel_rfl))
  f225:=Tryz.func175.trans (congrArg some (by kernel_rfl))
  f227:=Tryz.func164.trans (congrArg some (by kernel_rfl))
  f228:=Tryz.func185.trans (congrArg some (by kernel_rfl))
  f231:=Tryz.func163.trans (congrArg some (by kernel_rfl))
  f233:=Tryz.func165.trans (congrArg some (by kernel_rfl))
  f235:=Tryz.func166.trans (congrArg some (by kernel_rfl))
  f260:=Tryz.func184.trans (congrArg some (by kernel_rfl))
  f266:=Tryz.func188.trans (congrArg some (by kernel_rfl))
  t0:=Tryz.underlying0
  a0:=Tryz.isAgg0
  z0:=Tryz.sizeOf0
  v0:=Tryz.zeroValue0
  t3:=Tryz.underlying3
  a3:=Tryz.isAgg3
  z3:=Tryz.sizeOf3
  v3:=Tryz.zeroValue3
  t4:=Tryz.underlying4
  a4:=Tryz.isAgg4
  z4:=Tryz.sizeOf4
  v4:=Tryz.zeroValue4
  t5:=Tryz.underlying5
  a5:=Tryz.isAgg5
  z5:=Tryz.sizeOf5
  v5:=Tryz.zeroValue5
  t9:=Tryz.underlying9
  a9:=Tryz.isAgg9
  z9:=Tryz.sizeOf9
  v9:=Tryz.zeroValue9
  t21:=Tryz.underlying21
  a21:=Tryz.isAgg21
  z21:=Tryz.sizeOf21
  v21:=Tryz.zeroValue21
  t46:=Tryz.underlying204
  a46:=Tryz.isAgg204
  z46:=Tryz.sizeOf204
  v46:=Tryz.zeroValue204
  t105:=Tryz.underlying227
  a105:=Tryz.isAgg227
  z105:=Tryz.sizeOf227
  v105:=Tryz.zeroValue227
  t116:=Tryz.underlying232
  a116:=Tryz.isAgg232
  z116:=Tryz.sizeOf232
  t117:=Tryz.underlying233
  a117:=Tryz.isAgg233
  z117:=Tryz.sizeOf233
  v117:=Tryz.zeroValue233
  t119:=Tryz.underlying268
  a119:=Tryz.isAgg268
  z119:=Tryz.sizeOf268
  t124:=Tryz.underlying236
  a124:=Tryz.isAgg236
  z124:=Tryz.sizeOf236
  v124:=Tryz.zeroValue236
  t138:=Tryz.underlying270
  a138:=Tryz.isAgg270
  z138:=Tryz.sizeOf270
  v138:=Tryz.zeroValue270
  t139:=Tryz.underlying271
  a139:=Tryz.isAgg271
  z139:=Tryz.sizeOf271
  v139:=Tryz.zeroValue271
  g3:=by kernel_rfl
  g4:=by kernel_rfl }
def Tryz.lays103_ren:Go.Shelf.Ren:=⟨fun | 103=>36 | 210=>73 | 206=>76 | n=>n,fun | 9=>9 | 4=>4 | 24=>108 | 3=>3 | n=>n,fun | n=>n⟩
theorem Tryz.lays103:Go.Proofs.Lays.n103 Tryz.prog Tryz.lays103_ren:={
  mixed:=by kernel_rfl
  f103:=Tryz.func36.trans (congrArg some (by kernel_rfl))
  f206:=Tryz.func76.trans (congrArg some (by kernel_rfl))
  f210:=Tryz.func73.trans (congrArg some (by kernel_rfl))
  t3:=Tryz.underlying3
  a3:=Tryz.isAgg3
  z3:=Tryz.sizeOf3
  v3:=Tryz.zeroValue3
  t4:=Tryz.underlying4
  a4:=Tryz.isAgg4
  z4:=Tryz.sizeOf4
  v4:=Tryz.zeroValue4
  t9:=Tryz.underlying9
  a9:=Tryz.isAgg9
  z9:=Tryz.sizeOf9
  v9:=Tryz.zeroValue9
  t24:=Tryz.underlying108
  a24:=Tryz.isAgg108
  z24:=Tryz.sizeOf108
  v24:=Tryz.zeroValue108 }
open Go.RowKit in
/-- strings.CutPrefix: "CutPrefix returns s without the provided leading prefix string and reports whether it found the prefix. If s doesn't start with prefix, CutPrefix returns s, false. If prefix is the empty string, CutPrefix returns s, true.": IT RETURNS '(Lib.trimPrefix s p,Lib.hasPrefix s p)';the world is as it was. (LAID: no walk: one application.) -/
theorem Tryz.strings_CutPrefix (s p:ByteArray) (w:World) :
    Calls Tryz.prog 36 #[.string s,.string p] w fun e w'=>e=.returned (.tuple #[.string ⟨(Lib.trimPrefix s.data.toList p.data.toList).toArray⟩,.bool (Lib.hasPrefix s.data.toList p.data.toList)])∧w'=w:=Any.strings_CutPrefix Tryz.lays103 s p w
def Tryz.lays122_ren:Go.Shelf.Ren:=⟨fun | 122=>92 | 215=>121 | n=>n,fun | 3=>3 | 4=>4 | n=>n,fun | n=>n⟩
theorem Tryz.lays122:Go.Proofs.Lays.n122 Tryz.prog Tryz.lays122_ren:={
  mixed:=by kernel_rfl
  f122:=Tryz.func92.trans (congrArg some (by kernel_rfl))
  f215:=Tryz.func121.trans (congrArg some (by kernel_rfl))
  t3:=Tryz.underlying3
  a3:=Tryz.isAgg3
  z3:=Tryz.sizeOf3
  v3:=Tryz.zeroValue3
  t4:=Tryz.underlying4
  a4:=Tryz.isAgg4
  z4:=Tryz.sizeOf4
  v4:=Tryz.zeroValue4 }
open Go.RowKit in
/-- cmp.Compare at int: "Compare returns -1 if x is less than y, 0 if x equals y, +1 if x is greater than y.": IT RETURNS 'Lib.compareInt x y';the world is as it was. (LAID: no walk: one application.) -/
theorem Tryz.cmp_Compare_int (x y:Int) (w:World) :
    Calls Tryz.prog 92 #[.int .i64 x,.int .i64 y] w fun e w'=>e=.returned (.int .i64 (Lib.compareInt x y))∧w'=w:=Any.cmp_Compare_int Tryz.lays122 x y w
def Tryz.laysM171_ren:Go.Shelf.Ren:=⟨fun | 171=>134 | 243=>159 | 246=>183 | 283=>193 | 284=>194 | 285=>195 | 286=>196 | 129=>155 | 317=>200 | 318=>201 | 319=>202 | 320=>203 | 337=>206 | 338=>207 | n=>n,fun | 3=>3 | 9=>9 | 2=>2 | 4=>4 | 171=>264 | 0=>0 | 53=>72 | 37=>192 | 5=>5 | 173=>266 | 212=>278 | 51=>55 | 20=>20 | 213=>279 | 46=>204 | 232=>281 | 233=>282 | n=>n,fun | 17=>6 | 18=>7 | 19=>8 | n=>n⟩
theorem Tryz.laysM171:Go.Proofs.LaysM.n171 Tryz.prog Tryz.laysM171_ren:={
  mixed:=by kernel_rfl
  f129:=Tryz.func155.trans (congrArg some (by kernel_rfl))
  f171:=Tryz.func134.trans (congrArg some (by kernel_rfl))
  f243:=Tryz.func159.trans (congrArg some (by kernel_rfl))
  f246:=Tryz.func183.trans (congrArg some (by kernel_rfl))
  f283:=Tryz.func193.trans (congrArg some (by kernel_rfl))
  f284:=Tryz.func194.trans (congrArg some (by kernel_rfl))
  f285:=Tryz.func195.trans (congrArg some (by kernel_rfl))
  f286:=Tryz.func196.trans (congrArg some (by kernel_rfl))
  f317:=Tryz.func200.trans (congrArg some (by kernel_rfl))
  f318:=Tryz.func201.trans (congrArg some (by kernel_rfl))
  f319:=Tryz.func202.trans (congrArg some (by kernel_rfl))
  f320:=Tryz.func203.trans (congrArg some (by kernel_rfl))
  f337:=Tryz.func206.trans (congrArg some (by kernel_rfl))
  f338:=Tryz.func207.trans (congrArg some (by kernel_rfl))
  t0:=Tryz.underlying0
  a0:=Tryz.isAgg0
  z0:=Tryz.sizeOf0
  v0:=Tryz.zeroValue0
  t2:=Tryz.underlying2
  a2:=Tryz.isAgg2
  z2:=Tryz.sizeOf2
  v2:=Tryz.zeroValue2
  t3:=Tryz.underlying3
  a3:=Tryz.isAgg3
  z3:=Tryz.sizeOf3
  v3:=Tryz.zeroValue3
  t4:=Tryz.underlying4
  a4:=Tryz.isAgg4
  z4:=Tryz.sizeOf4
  v4:=Tryz.zeroValue4
  t5:=Tryz.underlying5
  a5:=Tryz.isAgg5
  z5:=Tryz.sizeOf5
  v5:=Tryz.zeroValue5
  t9:=Tryz.underlying9
  a9:=Tryz.isAgg9
  z9:=Tryz.sizeOf9
  v9:=Tryz.zeroValue9
  t20:=Tryz.underlying20
  a20:=Tryz.isAgg20
  z20:=Tryz.sizeOf20
  v20:=Tryz.zeroValue20
  t37:=Tryz.underlying192
  a37:=Tryz.isAgg192
  z37:=Tryz.sizeOf192
  v37:=Tryz.zeroValue192
  t46:=Tryz.underlying204
  a46:=Tryz.isAgg204
  z46:=Tryz.sizeOf204
  v46:=Tryz.zeroValue204
  t51:=Tryz.underlying55
  a51:=Tryz.isAgg55
  z51:=Tryz.sizeOf55
  v51:=Tryz.zeroValue55
  t53:=Tryz.underlying72
  a53:=Tryz.isAgg72
  z53:=Tryz.sizeOf72
  v53:=Tryz.zeroValue72
  t171:=Tryz.underlying264
  a171:=Tryz.isAgg264
  z171:=Tryz.sizeOf264
  v171:=Tryz.zeroValue264
  t173:=Tryz.underlying266
  a173:=Tryz.isAgg266
  z173:=Tryz.sizeOf266
  v173:=Tryz.zeroValue266
  t212:=Tryz.underlying278
  a212:=Tryz.isAgg278
  z212:=Tryz.sizeOf278
  v212:=Tryz.zeroValue278
  t213:=Tryz.underlying279
  a213:=Tryz.isAgg279
  z213:=Tryz.sizeOf279
  t232:=Tryz.underlying281
  a232:=Tryz.isAgg281
  z232:=Tryz.sizeOf281
  v232:=Tryz.zeroValue281
  t233:=Tryz.underlying282
  a233:=Tryz.isAgg282
  z233:=Tryz.sizeOf282
  v233:=Tryz.zeroValue282
  g17:=by kernel_rfl
  g18:=by kernel_rfl
  g19:=by kernel_rfl
  i0:=by kernel_rfl
  i2:=by kernel_rfl
  i3:=by kernel_rfl
  i4:=by kernel_rfl
  i5:=by kernel_rfl
  i9:=by kernel_rfl
  i20:=by kernel_rfl
  i37:=by kernel_rfl
  i46:=by kernel_rfl
  i51:=by kernel_rfl
  i53:=by kernel_rfl
  i171:=by kernel_rfl
  i173:=by kernel_rfl
  i212:=by kernel_rfl
  i232:=by kernel_rfl
  i233:=by kernel_rfl
  m17:=by kernel_rfl
  m18:=by kernel_rfl
  m19:=by kernel_rfl }
open Go.RowKit Go.Sort Go.Lib in
/-- strconv.Itoa: "Itoa is equivalent to FormatInt(int64(i), 10).": i's DECIMAL NUMERAL ('Lib.itoa': a '-' where i is negative,then the digits),FOR EVERY int. The world behind the call: the world before it,new blocks behind the heap (the library's 'var a [24]byte'),draws. (LAID: no walk: one application.) -/
theorem Tryz.strconv_Itoa (n:Int) (h0:-9223372036854775808≤n) (h1:n≤9223372036854775807) (w:World) (htab:Lib.TabIs Tryz.prog w "internal/strconv.uint64pow10" .u64 Lib.pow10Tab) :
    Calls Tryz.prog 134 #[.int .i64 n] w fun e w'=>e=.returned (.string ⟨(Lib.itoa n).toArray⟩)∧∃ k os,w'=grow (w.drewN k) os:=Any.strconv_Itoa Tryz.laysM171 n h0 h1 w htab
def Tryz.laysC172_ren:Go.Shelf.Ren:=⟨fun | 172=>133 | 244=>157 | 245=>158 | 247=>178 | 279=>179 | 280=>180 | 281=>181 | 282=>182 | 287=>190 | 316=>191 | 171=>134 | 205=>192 | 321=>198 | 322=>199 | 243=>159 | 246=>183 | 283=>193 | 284=>194 | 285=>195 | 286=>196 | 129=>155 | 317=>200 | 318=>201 | 319=>202 | 320=>203 | 337=>206 | 338=>207 | n=>n,fun | 9=>9 | 3=>3 | 75=>197 | 76=>198 | 4=>4 | 5=>5 | 167=>246 | 37=>192 | 0=>0 | 85=>247 | 2=>2 | 168=>249 | 53=>72 | 175=>258 | 46=>204 | 210=>262 | 127=>213 | 145=>276 | 143=>274 | 21=>21 | 171=>264 | 173=>266 | 212=>278 | 51=>55 | 20=>20 | 213=>279 | 232=>281 | 233=>282 | 80=>200 | n=>n,fun | 15=>2 | 16=>3 | 17=>6 | 18=>7 | 19=>8 | n=>n⟩
theorem Tryz.laysC172:Go.Proofs.LaysC.n172 Tryz.prog Tryz.laysC172_ren:={
  mixed:=by kernel_rfl
  f129:=Tryz.func155.trans (congrArg some (by kernel_rfl))
  f171:=Tryz.func134.trans (congrArg some (by kernel_rfl))
  f172:=Tryz.func133.trans (congrArg some (by kernel_rfl))
  f205:=Tryz.func192.trans (congrArg some (by kernel_rfl))
  f243:=Tryz.func159.trans (congrArg some (by kernel_rfl))
  f244:=Tryz.func157.trans (congrArg some (by kernel_rfl))
  f245:=Tryz.func158.trans (congrArg some (by kernel_rfl))
  f246:=Tryz.func183.trans (congrArg some (by kernel_rfl))
  f247:=Tryz.func178.trans (congrArg some (by kernel_rfl))
  f279:=Tryz.func179.trans (congrArg some (by kernel_rfl))
  f280:=Tryz.func180.trans (congrArg some (by kernel_rfl))
  f281:=Tryz.func181.trans (congrArg some (by kernel_rfl))
  f282:=Tryz.func182.trans (congrArg some (by kernel_rfl))
  f283:=Tryz.func193.trans (congrArg some (by kernel_rfl))
  f284:=Tryz.func194.trans (congrArg some (by kernel_rfl))
  f285:=Tryz.func195.trans (congrArg some (by kernel_rfl))
  f286:=Tryz.func196.trans (congrArg some (by kernel_rfl))
  f287:=Tryz.func190.trans (congrArg some (by kernel_rfl))
  f316:=Tryz.func191.trans (congrArg some (by kernel_rfl))
  f317:=Tryz.func200.trans (congrArg some (by kernel_rfl))
  f318:=Tryz.func201.trans (congrArg some (by kernel_rfl))
  f319:=Tryz.func202.trans (congrArg some (by kernel_rfl))
  f320:=Tryz.func203.trans (congrArg some (by kernel_rfl))
  f321:=Tryz.func198.trans (congrArg some (by kernel_rfl))
  f322:=Tryz.func199.trans (congrArg some (by kernel_rfl))
  f337:=Tryz.func206.trans (congrArg some (by kernel_rfl))
  f338:=Tryz.func207.trans (congrArg some (by kernel_rfl))
  t0:=Tryz.underlying0
  a0:=Tryz.isAgg0
  z0:=Tryz.sizeOf0
  v0:=Tryz.zeroValue0
  t2:=Tryz.underlying2
  a2:=Tryz.isAgg2
  z2:=Tryz.sizeOf2
  v2:=Tryz.zeroValue2
  t3:=Tryz.underlying3
  a3:=Tryz.isAgg3
  z3:=Tryz.sizeOf3
  v3:=Tryz.zeroValue3
  t4:=Tryz.underlying4
  a4:=Tryz.isAgg4
  z4:=Tryz.sizeOf4
  v4:=Tryz.zeroValue4
  t5:=Tryz.underlying5
  a5:=Tryz.isAgg5
  z5:=Tryz.sizeOf5
  v5:=Tryz.zeroValue5
  t9:=Tryz.underlying9
  a9:=Tryz.isAgg9
  z9:=Tryz.sizeOf9
  v9:=Tryz.zeroValue9
  t20:=Tryz.underlying20
  a20:=Tryz.isAgg20
  z20:=Tryz.sizeOf20
  v20:=Tryz.zeroValue20
  t21:=Tryz.underlying21
  a21:=Tryz.isAgg21
  z21:=Tryz.sizeOf21
  v21:=Tryz.zeroValue21
  t37:=Tryz.underlying192
  a37:=Tryz.isAgg192
  z37:=Tryz.sizeOf192
  v37:=Tryz.zeroValue192
  t46:=Tryz.underlying204
  a46:=Tryz.isAgg204
  z46:=Tryz.sizeOf204
  v46:=Tryz.zeroValue204
  t51:=Tryz.underlying55
  a51:=Tryz.isAgg55
  z51:=Tryz.sizeOf55
  v51:=Tryz.zeroValue55
  t53:=Tryz.underlying72
  a53:=Tryz.isAgg72
  z53:=Tryz.sizeOf72
  v53:=Tryz.zeroValue72
  t75:=Tryz.underlying197
  a75:=Tryz.isAgg197
  z75:=Tryz.sizeOf197
  v75:=Tryz.zeroValue197
  t76:=Tryz.underlying198
  a76:=Tryz.isAgg198
  z76:=Tryz.sizeOf198
  v76:=Tryz.zeroValue198
  t85:=Tryz.underlying247
  a85:=Tryz.isAgg247
  z85:=Tryz.sizeOf247
  v85:=Tryz.zeroValue247
  t127:=Tryz.underlying213
  a127:=Tryz.isAgg213
  z127:=Tryz.sizeOf213
  v127:=Tryz.zeroValue213
  t143:=Tryz.underlying274
  a143:=Tryz.isAgg274
  z143:=Tryz.sizeOf274
  v143:=Tryz.zeroValue274
  t145:=Tryz.underlying276
  a145:=Tryz.isAgg276
  z145:=Tryz.sizeOf276
  v145:=Tryz.zeroValue276
  t167:=Tryz.underlying246
  a167:=Tryz.isAgg246
  z167:=Tryz.sizeOf246
  v167:=Tryz.zeroValue246
  t168:=Tryz.underlying249
  a168:=Tryz.isAgg249
  z168:=Tryz.sizeOf249
  v168:=Tryz.zeroValue249
  t171:=Tryz.underlying264
  a171:=Tryz.isAgg264
  z171:=Tryz.sizeOf264
  v171:=Tryz.zeroValue264
  t173:=Tryz.underlying266
  a173:=Tryz.isAgg266
  z173:=Tryz.sizeOf266
  v173:=Tryz.zeroValue266
  t175:=Tryz.underlying258
  a175:=Tryz.isAgg258
  z175:=Tryz.sizeOf258
  v175:=Tryz.zeroValue258
  t210:=Tryz.underlying262
  a210:=Tryz.isAgg262
  z210:=Tryz.sizeOf262
  v210:=Tryz.zeroValue262
  t212:=Tryz.underlying278
  a212:=Tryz.isAgg278
  z212:=Tryz.sizeOf278
  v212:=Tryz.zeroValue278
  t213:=Tryz.underlying279
  a213:=Tryz.isAgg279
  z213:=Tryz.sizeOf279
  t232:=Tryz.underlying281
  a232:=Tryz.isAgg281
  z232:=Tryz.sizeOf281
  v232:=Tryz.zeroValue281
  t233:=Tryz.underlying282
  a233:=Tryz.isAgg282
  z233:=Tryz.sizeOf282
  v233:=Tryz.zeroValue282
  g15:=by kernel_rfl
  g16:=by kernel_rfl
  g17:=by kernel_rfl
  g18:=by kernel_rfl
  g19:=by kernel_rfl
  t80:=Tryz.underlying200
  a80:=Tryz.isAgg200
  z80:=Tryz.sizeOf200
  v80:=Tryz.zeroValue200
  i0:=by kernel_rfl
  i2:=by kernel_rfl
  i3:=by kernel_rfl
  i4:=by kernel_rfl
  i5:=by kernel_rfl
  i9:=by kernel_rfl
  i20:=by kernel_rfl
  i21:=by kernel_rfl
  i37:=by kernel_rfl
  i46:=by kernel_rfl
  i51:=by kernel_rfl
  i53:=by kernel_rfl
  i75:=by kernel_rfl
  i76:=by kernel_rfl
  i80:=by kernel_rfl
  i85:=by kernel_rfl
  i127:=by kernel_rfl
  i143:=by kernel_rfl
  i145:=by kernel_rfl
  i167:=by kernel_rfl
  i168:=by kernel_rfl
  i171:=by kernel_rfl
  i173:=by kernel_rfl
  i175:=by kernel_rfl
  i210:=by kernel_rfl
  i212:=by kernel_rfl
  i232:=by kernel_rfl
  i233:=by kernel_rfl
  m15:=by kernel_rfl
  m16:=by kernel_rfl
  m17:=by kernel_rfl
  m18:=by kernel_rfl
  m19:=by kernel_rfl
  c0:=by kernel_rfl
  c2:=by kernel_rfl
  c3:=by kernel_rfl
  c4:=by kernel_rfl
  c5:=by kernel_rfl
  c9:=by kernel_rfl
  c20:=by kernel_rfl
  c21:=by kernel_rfl
  c37:=by kernel_rfl
  c46:=by kernel_rfl
  c51:=by kernel_rfl
  c53:=by kernel_rfl
  c75:=by kernel_rfl
  c76:=by kernel_rfl
  c80:=by kernel_rfl
  c85:=by kernel_rfl
  c127:=by kernel_rfl
  c143:=by kernel_rfl
  c145:=by kernel_rfl
  c167:=by kernel_rfl
  c168:=by kernel_rfl
  c171:=by kernel_rfl
  c173:=by kernel_rfl
  c175:=by kernel_rfl
  c210:=by kernel_rfl
  c212:=by kernel_rfl
  c213:=by kernel_rfl
  c232:=by kernel_rfl
  c233:=by kernel_rfl }
open Go.RowKit in
/-- strconv.Atoi,AT EVERY STRING THAT SPELLS AN int ('Lib.atoiAll ..=.ok v';of whatever length: leading zeros count): v,AND NO ERROR. The world: as it was,or with the one new row that '[]byte(..)' lays. (LAID: no walk: one application.) -/
theorem Tryz.strconv_Atoi_ok (s:ByteArray) (hmax:s.size≤9223372036854775806) (v:Int) (h:Lib.atoiAll s.data.toList=.ok v) (w:World) :
    Calls Tryz.prog 133 #[.string s] w fun e w'=>e=.returned (.tuple #[.int .i64 v,.nilIface])∧(w'=w ∨ ∃ t,w'=Lib.bytesWorld w 5 t):=Any.strconv_Atoi_ok Tryz.laysC172 s hmax v h w
open Go.RowKit in
/-- strconv.Atoi,AT EVERY NUMERAL THAT NO int HOLDS ('.range'): THE GREATEST OR THE LEAST int,BY THE SIGN ('Lib.atoiSat'),AND AN ERROR THAT IS NOT nil: a *NumError in a new block N: {Func: "Atoi",Num: s's bytes,Err: what the variable ErrRange holds}. Of what was there nothing has turned. (LAID: no walk: one application.) -/
theorem Tryz.strconv_Atoi_range (s:ByteArray) (hlim:s.size≤281474976710656) (h:Lib.atoiAll s.data.toList=.range) (ev:Value) (w:World) (hv:w.cell? ⟨3,0,none⟩=some ev) (hev:ev=.nilIface ∨ ∃ te pe,ev=.iface te pe) :
    Calls Tryz.prog 133 #[.string s] w fun e w'=>∃ N,e=.returned (.tuple #[.int .i64 (Lib.atoiSat s.data.toList),.iface 249 (.pointer (some ⟨N,0,none⟩))])∧w.heap.size≤N∧w'.heap[N]?=some (.cells #[.string ⟨#[65,116,111,105]⟩,.string s,ev] 262 (0,0))∧Below w.heap.size w w':=Any.strconv_Atoi_range Tryz.laysC172 s hlim h ev w hv hev
def Tryz.lays145_ren:Go.Shelf.Ren:=⟨fun | 145=>104 | 220=>132 | 219=>156 | 217=>174 | 225=>175 | 224=>176 | 267=>177 | 266=>188 | 314=>189 | n=>n,fun | 9=>9 | 4=>4 | 59=>179 | 3=>3 | 5=>5 | 46=>204 | 146=>256 | 51=>55 | n=>n,fun | 1=>1 | n=>n⟩
theorem Tryz.lays145:Go.Proofs.Lays.n145 Tryz.prog Tryz.lays145_ren:={
  mixed:=by kernel_rfl
  f145:=Tryz.func104.trans (congrArg some (by kernel_rfl))
  f217:=Tryz.func174.trans (congrArg some (by kernel_rfl))
  f219:=Tryz.func156.trans (congrArg some (by kernel_rfl))
  f220:=Tryz.func132.trans (congrArg some (by kernel_rfl))
  f224:=Tryz.func176.trans (congrArg some (by kernel_rfl))
  f225:=Tryz.func175.trans (congrArg some (by kernel_rfl))
  f266:=Tryz.func188.trans (congrArg some (by kernel_rfl))
  f267:=Tryz.func177.trans (congrArg some (by kernel_rfl))
  f314:=Tryz.func189.trans (congrArg some (by kernel_rfl))
  t3:=Tryz.underlying3
  a3:=Tryz.isAgg3
  z3:=Tryz.sizeOf3
  v3:=Tryz.zeroValue3
  t4:=Tryz.underlying4
  a4:=Tryz.isAgg4
  z4:=Tryz.sizeOf4
  v4:=Tryz.zeroValue4
  t5:=Tryz.underlying5
  a5:=Tryz.isAgg5
  z5:=Tryz.sizeOf5
  v5:=Tryz.zeroValue5
  t9:=Tryz.underlying9
  a9:=Tryz.isAgg9
  z9:=Tryz.sizeOf9
  v9:=Tryz.zeroValue9
  t46:=Tryz.underlying204
  a46:=Tryz.isAgg204
  z46:=Tryz.sizeOf204
  v46:=Tryz.zeroValue204
  t51:=Tryz.underlying55
  a51:=Tryz.isAgg55
  z51:=Tryz.sizeOf55
  v51:=Tryz.zeroValue55
  t59:=Tryz.underlying179
  a59:=Tryz.isAgg179
  z59:=Tryz.sizeOf179
  v59:=Tryz.zeroValue179
  t146:=Tryz.underlying256
  a146:=Tryz.isAgg256
  z146:=Tryz.sizeOf256
  v146:=Tryz.zeroValue256
  g1:=by kernel_rfl }
open Go.RowKit Go.Lib in
/-- strings.Cut: "Cut slices s around the first instance of sep, returning the text before and after sep. The found result reports whether sep appears in s. If sep does not appear in s, cut returns s, "", false.": IT RETURNS 'Lib.cut s sep';the world is as it was but for the count of draws. (LAID: no walk: one application.) -/
theorem Tryz.strings_Cut (s sep:ByteArray) (m:Int) (w:World) (hs:s.size<4294967281) (hm:w.cell? ⟨1,0,none⟩=some (.int .i64 m)) :
    Calls Tryz.prog 104 #[.string s,.string sep] w fun e w'=>e=.returned (.tuple #[.string ⟨(Lib.cut s.data.toList sep.data.toList).1.toArray⟩,.string ⟨(Lib.cut s.data.toList sep.data.toList).2.1.toArray⟩,.bool (Lib.cut s.data.toList sep.data.toList).2.2])∧∃ n,w'=w.drewN n:=Any.strings_Cut Tryz.lays145 s sep m w hs hm
def Tryz.lays99_ren:Go.Shelf.Ren:=⟨fun | 99=>38 | 206=>76 | n=>n,fun | 9=>9 | 4=>4 | 3=>3 | n=>n,fun | n=>n⟩
theorem Tryz.lays99:Go.Proofs.Lays.n99 Tryz.prog Tryz.lays99_ren:={
  mixed:=by kernel_rfl
  f99:=Tryz.func38.trans (congrArg some (by kernel_rfl))
  f206:=Tryz.func76.trans (congrArg some (by kernel_rfl))
  t3:=Tryz.underlying3
  a3:=Tryz.isAgg3
  z3:=Tryz.sizeOf3
  v3:=Tryz.zeroValue3
  t4:=Tryz.underlying4
  a4:=Tryz.isAgg4
  z4:=Tryz.sizeOf4
  v4:=Tryz.zeroValue4
  t9:=Tryz.underlying9
  a9:=Tryz.isAgg9
  z9:=Tryz.sizeOf9
  v9:=Tryz.zeroValue9 }
open Go.RowKit Go.Lib in
/-- strings.HasPrefix: "HasPrefix reports whether the string s begins with prefix.": IT RETURNS 'Lib.hasPrefix s prefix';the world is as it was. (LAID: no walk: one application.) -/
theorem Tryz.strings_HasPrefix (s p:ByteArray) (w:World) :
    Calls Tryz.prog 38 #[.string s,.string p] w fun e w'=>e=.returned (.bool (Lib.hasPrefix s.data.toList p.data.toList))∧w'=w:=Any.strings_HasPrefix Tryz.lays99 s p w
def Tryz.lays147_ren:Go.Shelf.Ren:=⟨fun | 147=>78 | 221=>107 | 268=>136 | 138=>137 | 143=>138 | 195=>160 | 197=>161 | 218=>162 | 219=>156 | 260=>184 | 217=>174 | 225=>175 | 224=>176 | 267=>177 | 266=>188 | 314=>189 | n=>n,fun | 9=>9 | 3=>3 | 31=>22 | 4=>4 | 0=>0 | 105=>227 | 21=>21 | 5=>5 | 46=>204 | 119=>268 | 139=>271 | 138=>270 | 146=>256 | 51=>55 | n=>n,fun | 1=>1 | 3=>4 | 4=>5 | n=>n⟩
theorem Tryz.lays147:Go.Proofs.Lays.n147 Tryz.prog Tryz.lays147_ren:={
  mixed:=by kernel_rfl
  f138:=Tryz.func137.trans (congrArg some (by kernel_rfl))
  f143:=Tryz.func138.trans (congrArg some (by kernel_rfl))
  f147:=Tryz.func78.trans (congrArg some (by kernel_rfl))
  f195:=Tryz.func160.trans (congrArg some (by kernel_rfl))
  f197:=Tryz.func161.trans (congrArg some (by kernel_rfl))
  f217:=Tryz.func174.trans (congrArg some (by kernel_rfl))
  f218:=Tryz.func162.trans (congrArg some (by kernel_rfl))
  f219:=Tryz.func156.trans (congrArg some (by kernel_rfl))
  f221:=Tryz.func107.trans (congrArg some (by kernel_rfl))
  f224:=Tryz.func176.trans (congrArg some (by kernel_rfl))
  f225:=Tryz.func175.trans (congrArg some (by kernel_rfl))
  f260:=Tryz.func184.trans (congrArg some (by kernel_rfl))
  f266:=Tryz.func188.trans (congrArg some (by kernel_rfl))
  f267:=Tryz.func177.trans (congrArg some (by kernel_rfl))
  f268:=Tryz.func136.trans (congrArg some (by kernel_rfl))
  f314:=Tryz.func189.trans (congrArg some (by kernel_rfl))
  t0:=Tryz.underlying0
  a0:=Tryz.isAgg0
  z0:=Tryz.sizeOf0
  v0:=Tryz.zeroValue0
  t3:=Tryz.underlying3
  a3:=Tryz.isAgg3
  z3:=Tryz.sizeOf3
  v3:=Tryz.zeroValue3
  t4:=Tryz.underlying4
  a4:=Tryz.isAgg4
  z4:=Tryz.sizeOf4
  v4:=Tryz.zeroValue4
  t5:=Tryz.underlying5
  a5:=Tryz.isAgg5
  z5:=Tryz.sizeOf5
  v5:=Tryz.zeroValue5
  t9:=Tryz.underlying9
  a9:=Tryz.isAgg9
  z9:=Tryz.sizeOf9
  v9:=Tryz.zeroValue9
  t21:=Tryz.underlying21
  a21:=Tryz.isAgg21
  z21:=Tryz.sizeOf21
  v21:=Tryz.zeroValue21
  t31:=Tryz.underlying22
  a31:=Tryz.isAgg22
  z31:=Tryz.sizeOf22
  v31:=Tryz.zeroValue22
  t46:=Tryz.underlying204
  a46:=Tryz.isAgg204
  z46:=Tryz.sizeOf204
  v46:=Tryz.zeroValue204
  t51:=Tryz.underlying55
  a51:=Tryz.isAgg55
  z51:=Tryz.sizeOf55
  v51:=Tryz.zeroValue55
  t105:=Tryz.underlying227
  a105:=Tryz.isAgg227
  z105:=Tryz.sizeOf227
  v105:=Tryz.zeroValue227
  t119:=Tryz.underlying268
  a119:=Tryz.isAgg268
  z119:=Tryz.sizeOf268
  t138:=Tryz.underlying270
  a138:=Tryz.isAgg270
  z138:=Tryz.sizeOf270
  v138:=Tryz.zeroValue270
  t139:=Tryz.underlying271
  a139:=Tryz.isAgg271
  z139:=Tryz.sizeOf271
  v139:=Tryz.zeroValue271
  t146:=Tryz.underlying256
  a146:=Tryz.isAgg256
  z146:=Tryz.sizeOf256
  v146:=Tryz.zeroValue256
  g1:=by kernel_rfl
  g3:=by kernel_rfl
  g4:=by kernel_rfl }
open Go.RowKit Go.Lib in
/-- strings.SplitN,n > 0. (LAID: no walk: one application.) -/
theorem Tryz.strings_SplitN (s sep:ByteArray) (n:Nat) (m:Int) (w:World) (hs:s.size<4294967281) (hm:w.cell? ⟨1,0,none⟩=some (.int .i64 m)) (h1:1≤sep.size) (hn:1≤n) (hn63:n≤9223372036854775807) :
    Calls Tryz.prog 78 #[.string s,.string sep,.int .i64 n] w fun e w'=>
      e=.returned (.slice (some ⟨w.heap.size,0,none⟩) (Lib.splitB sep 0 (min n (s.size+1) - 1) s).length (min n (s.size+1)))∧w'=w.alloc (.cells (Lib.cellsOf (Lib.splitB sep 0 (min n (s.size+1) - 1) s) (min n (s.size+1))) 9):=Any.strings_SplitN Tryz.lays147 (by kernel_rfl) s sep n m w hs hm h1 hn hn63
def Tryz.laysM147_ren:Go.Shelf.Ren:=⟨fun | 147=>78 | 221=>107 | 268=>136 | 138=>137 | 143=>138 | 195=>160 | 197=>161 | 218=>162 | 219=>156 | 260=>184 | 217=>174 | 225=>175 | 224=>176 | 267=>177 | 266=>188 | 314=>189 | n=>n,fun | 9=>9 | 3=>3 | 31=>22 | 4=>4 | 0=>0 | 105=>227 | 21=>21 | 5=>5 | 46=>204 | 119=>268 | 139=>271 | 138=>270 | 146=>256 | 51=>55 | n=>n,fun | 1=>1 | 3=>4 | 4=>5 | n=>n⟩
theorem Tryz.laysM147:Go.Proofs.LaysM.n147 Tryz.prog Tryz.laysM147_ren:={
  mixed:=by kernel_rfl
  f138:=Tryz.func137.trans (congrArg some (by kernel_rfl))
  f143:=Tryz.func138.trans (congrArg some (by kernel_rfl))
  f147:=Tryz.func78.trans (congrArg some (by kernel_rfl))
  f195:=Tryz.func160.trans (congrArg some (by kernel_rfl))
  f197:=Tryz.func161.trans (congrArg some (by kernel_rfl))
  f217:=Tryz.func174.trans (congrArg some (by kernel_rfl))
  f218:=Tryz.func162.trans (congrArg some (by kernel_rfl))
  f219:=Tryz.func156.trans (congrArg some (by kernel_rfl))
  f221:=Tryz.func107.trans (congrArg some (by kernel_rfl))
  f224:=Tryz.func176.trans (congrArg some (by kernel_rfl))
  f225:=Tryz.func175.trans (congrArg some (by kernel_rfl))
  f260:=Tryz.func184.trans (congrArg some (by kernel_rfl))
  f266:=Tryz.func188.trans (congrArg some (by kernel_rfl))
  f267:=Tryz.func177.trans (congrArg some (by kernel_rfl))
  f268:=Tryz.func136.trans (congrArg some (by kernel_rfl))
  f314:=Tryz.func189.trans (congrArg some (by kernel_rfl))
  t0:=Tryz.underlying0
  a0:=Tryz.isAgg0
  z0:=Tryz.sizeOf0
  v0:=Tryz.zeroValue0
  t3:=Tryz.underlying3
  a3:=Tryz.isAgg3
  z3:=Tryz.sizeOf3
  v3:=Tryz.zeroValue3
  t4:=Tryz.underlying4
  a4:=Tryz.isAgg4
  z4:=Tryz.sizeOf4
  v4:=Tryz.zeroValue4
  t5:=Tryz.underlying5
  a5:=Tryz.isAgg5
  z5:=Tryz.sizeOf5
  v5:=Tryz.zeroValue5
  t9:=Tryz.underlying9
  a9:=Tryz.isAgg9
  z9:=Tryz.sizeOf9
  v9:=Tryz.zeroValue9
  t21:=Tryz.underlying21
  a21:=Tryz.isAgg21
  z21:=Tryz.sizeOf21
  v21:=Tryz.zeroValue21
  t31:=Tryz.underlying22
  a31:=Tryz.isAgg22
  z31:=Tryz.sizeOf22
  v31:=Tryz.zeroValue22
  t46:=Tryz.underlying204
  a46:=Tryz.isAgg204
  z46:=Tryz.sizeOf204
  v46:=Tryz.zeroValue204
  t51:=Tryz.underlying55
  a51:=Tryz.isAgg55
  z51:=Tryz.sizeOf55
  v51:=Tryz.zeroValue55
  t105:=Tryz.underlying227
  a105:=Tryz.isAgg227
  z105:=Tryz.sizeOf227
  v105:=Tryz.zeroValue227
  t119:=Tryz.underlying268
  a119:=Tryz.isAgg268
  z119:=Tryz.sizeOf268
  t138:=Tryz.underlying270
  a138:=Tryz.isAgg270
  z138:=Tryz.sizeOf270
  v138:=Tryz.zeroValue270
  t139:=Tryz.underlying271
  a139:=Tryz.isAgg271
  z139:=Tryz.sizeOf271
  v139:=Tryz.zeroValue271
  t146:=Tryz.underlying256
  a146:=Tryz.isAgg256
  z146:=Tryz.sizeOf256
  v146:=Tryz.zeroValue256
  g1:=by kernel_rfl
  g3:=by kernel_rfl
  g4:=by kernel_rfl
  i0:=by kernel_rfl
  i3:=by kernel_rfl
  i4:=by kernel_rfl
  i5:=by kernel_rfl
  i9:=by kernel_rfl
  i21:=by kernel_rfl
  i31:=by kernel_rfl
  i46:=by kernel_rfl
  i51:=by kernel_rfl
  i105:=by kernel_rfl
  i138:=by kernel_rfl
  i139:=by kernel_rfl
  i146:=by kernel_rfl
  m1:=by kernel_rfl
  s1_3:=fun w h=>Go.Proofs.cell_of_shapedOpen_int (zero:=#[.int .i64 0]) (t:=3) h (of_decide_eq_true (by kernel_rfl)) (by kernel_rfl) rfl (by kernel_rfl) (by kernel_rfl) Tryz.underlying3
  m3:=by kernel_rfl
  m4:=by kernel_rfl }
end Go.Proofs
