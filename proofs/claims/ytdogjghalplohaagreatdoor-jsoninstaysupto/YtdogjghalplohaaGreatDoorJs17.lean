import Derived.Shelf.Strconv.Atoi
import Derived.Shelf.Strconv.Itoa0
import Derived.Shelf.Strconv.Itoa1
import Derived.Shelf.Strconv.Itoa2
import Derived.Shelf.Strconv.Itoa3
import Derived.Shelf.Strings.Cut
import Derived.Shelf.Strings.Shaped
import Derived.Shelf.Strings.Replace
import Derived.Shelf.Strings.Repeat
import Derived.Test.YtdogjghalplohaaGreatDoorProg
import Derived.Test.YtdogjghalplohaaGreatDoorJs16
import Derived.Lib.AtoiErrMem
namespace Go.Proofs
open Go.Shelf
def Tryz.lays145_ren:Go.Shelf.Ren:=⟨fun | 145 => 73 | 220 => 101 | 219 => 128 | 217 => 151 | 225 => 150 | 224 => 149 | 267 => 152 | 266 => 172 | 314 => 173 | n => n,fun | 9 => 9 | 4 => 4 | 59 => 119 | 3 => 3 | 5 => 5 | 46 => 138 | 146 => 207 | 51 => 175 | n => n,fun | 1 => 1 | n => n⟩
theorem Tryz.lays145:Go.Proofs.Lays.n145 Tryz.prog Tryz.lays145_ren:={
  mixed:=by kernel_rfl
  f145:=Tryz.func73.trans (congrArg some (by kernel_rfl))
  f217:=Tryz.func151.trans (congrArg some (by kernel_rfl))
  f219:=Tryz.func128.trans (congrArg some (by kernel_rfl))
  f220:=Tryz.func101.trans (congrArg some (by kernel_rfl))
  f224:=Tryz.func149.trans (congrArg some (by kernel_rfl))
  f225:=Tryz.func150.trans (congrArg some (by kernel_rfl))
  f266:=Tryz.func172.trans (congrArg some (by kernel_rfl))
  f267:=Tryz.func152.trans (congrArg some (by kernel_rfl))
  f314:=Tryz.func173.trans (congrArg some (by kernel_rfl))
  t3:=Tryz.underlying3
  a3:=Tryz.isAgg3
  z3:=Tryz.sizeOf3
  v3:=Tryz.zeroValue3
  t4:=Tryz.underlying4
  a4:=Tryz.isAgg4
  z4:=Tryz.sizeOf4
  v4:=Tryz.zeroValue4
  t5:=Tryz.underlying5
  a5:=Tryz.isAgg5
  z5:=Tryz.sizeOf5
  v5:=Tryz.zeroValue5
  t9:=Tryz.underlying9
  a9:=Tryz.isAgg9
  z9:=Tryz.sizeOf9
  v9:=Tryz.zeroValue9
  t46:=Tryz.underlying138
  a46:=Tryz.isAgg138
  z46:=Tryz.sizeOf138
  v46:=Tryz.zeroValue138
  t51:=Tryz.underlying175
  a51:=Tryz.isAgg175
  z51:=Tryz.sizeOf175
  v51:=Tryz.zeroValue175
  t59:=Tryz.underlying119
  a59:=Tryz.isAgg119
  z59:=Tryz.sizeOf119
  v59:=Tryz.zeroValue119
  t146:=Tryz.underlying207
  a146:=Tryz.isAgg207
  z146:=Tryz.sizeOf207
  v146:=Tryz.zeroValue207
  g1:=by kernel_rfl }
open Go.RowKit Go.Lib in
theorem Tryz.strings_Cut (s sep:ByteArray) (m:Int) (w:World) (hs:s.size < 4294967281) (hm:w.cell? ⟨1,0,none⟩ = some (.int .i64 m)) :
    Calls Tryz.prog 73 #[.string s,.string sep] w fun e w' => e = .returned (.tuple #[.string ⟨(Lib.cut s.data.toList sep.data.toList).1.toArray⟩,.string ⟨(Lib.cut s.data.toList sep.data.toList).2.1.toArray⟩,.bool (Lib.cut s.data.toList sep.data.toList).2.2]) ∧ ∃ n,w' = w.drewN n:=Any.strings_Cut Tryz.lays145 s sep m w hs hm
def Tryz.lays154_ren:Go.Shelf.Ren:=⟨fun | 154 => 143 | 138 => 167 | 165 => 168 | 143 => 169 | 166 => 30 | 197 => 129 | 169 => 31 | 195 => 194 | 218 => 195 | 240 => 63 | 241 => 196 | 219 => 128 | 260 => 153 | 276 => 92 | 277 => 223 | 217 => 151 | 225 => 150 | 224 => 149 | 267 => 152 | 266 => 172 | 314 => 173 | n => n,fun | 9 => 9 | 3 => 3 | 4 => 4 | 72 => 67 | 0 => 0 | 76 => 71 | 105 => 170 | 21 => 21 | 5 => 5 | 70 => 65 | 20 => 20 | 37 => 22 | 75 => 70 | 127 => 110 | 164 => 139 | 46 => 138 | 119 => 209 | 139 => 212 | 138 => 211 | 146 => 207 | 51 => 175 | 80 => 73 | n => n,fun | 1 => 1 | 3 => 5 | 4 => 6 | n => n⟩
theorem Tryz.lays154:Go.Proofs.Lays.n154 Tryz.prog Tryz.lays154_ren:={
  mixed:=by kernel_rfl
  f138:=Tryz.func167.trans (congrArg some (by kernel_rfl))
  f143:=Tryz.func169.trans (congrArg some (by kernel_rfl))
  f154:=Tryz.func143.trans (congrArg some (by kernel_rfl))
  f165:=Tryz.func168.trans (congrArg some (by kernel_rfl))
  f166:=Tryz.func30.trans (congrArg some (by kernel_rfl))
  f169:=Tryz.func31.trans (congrArg some (by kernel_rfl))
  f195:=Tryz.func194.trans (congrArg some (by kernel_rfl))
  f197:=Tryz.func129.trans (congrArg some (by kernel_rfl))
  f217:=Tryz.func151.trans (congrArg some (by kernel_rfl))
  f218:=Tryz.func195.trans (congrArg some (by kernel_rfl))
  f219:=Tryz.func128.trans (congrArg some (by kernel_rfl))
  f224:=Tryz.func149.trans (congrArg some (by kernel_rfl))
  f225:=Tryz.func150.trans (congrArg some (by kernel_rfl))
  f240:=Tryz.func63.trans (congrArg some (by kernel_rfl))
  f241:=Tryz.func196.trans (congrArg some (by kernel_rfl))
  f260:=Tryz.func153.trans (congrArg some (by kernel_rfl))
  f266:=Tryz.func172.trans (congrArg some (by kernel_rfl))
  f267:=Tryz.func152.trans (congrArg some (by kernel_rfl))
  f276:=Tryz.func92.trans (congrArg some (by kernel_rfl))
  f277:=Tryz.func223.trans (congrArg some (by kernel_rfl))
  f314:=Tryz.func173.trans (congrArg some (by kernel_rfl))
  t0:=Tryz.underlying0
  a0:=Tryz.isAgg0
  z0:=Tryz.sizeOf0
  v0:=Tryz.zeroValue0
  t3:=Tryz.underlying3
  a3:=Tryz.isAgg3
  z3:=Tryz.sizeOf3
  v3:=Tryz.zeroValue3
  t4:=Tryz.underlying4
  a4:=Tryz.isAgg4
  z4:=Tryz.sizeOf4
  v4:=Tryz.zeroValue4
  t5:=Tryz.underlying5
  a5:=Tryz.isAgg5
  z5:=Tryz.sizeOf5
  v5:=Tryz.zeroValue5
  t9:=Tryz.underlying9
  a9:=Tryz.isAgg9
  z9:=Tryz.sizeOf9
  v9:=Tryz.zeroValue9
  t20:=Tryz.underlying20
  a20:=Tryz.isAgg20
  z20:=Tryz.sizeOf20
  v20:=Tryz.zeroValue20
  t21:=Tryz.underlying21
  a21:=Tryz.isAgg21
  z21:=Tryz.sizeOf21
  v21:=Tryz.zeroValue21
  t37:=Tryz.underlying22
  a37:=Tryz.isAgg22
  z37:=Tryz.sizeOf22
  v37:=Tryz.zeroValue22
  t46:=Tryz.underlying138
  a46:=Tryz.isAgg138
  z46:=Tryz.sizeOf138
  v46:=Tryz.zeroValue138
  t51:=Tryz.underlying175
  a51:=Tryz.isAgg175
  z51:=Tryz.sizeOf175
  v51:=Tryz.zeroValue175
  t70:=Tryz.underlying65
  a70:=Tryz.isAgg65
  z70:=Tryz.sizeOf65
  v70:=Tryz.zeroValue65
  t72:=Tryz.underlying67
  a72:=Tryz.isAgg67
  z72:=Tryz.sizeOf67
  v72:=Tryz.zeroValue67
  t75:=Tryz.underlying70
  a75:=Tryz.isAgg70
  z75:=Tryz.sizeOf70
  v75:=Tryz.zeroValue70
  t76:=Tryz.underlying71
  a76:=Tryz.isAgg71
  z76:=Tryz.sizeOf71
  v76:=Tryz.zeroValue71
  t105:=Tryz.underlying170
  a105:=Tryz.isAgg170
  z105:=Tryz.sizeOf170
  v105:=Tryz.zeroValue170
  t119:=Tryz.underlying209
  a119:=Tryz.isAgg209
  z119:=Tryz.sizeOf209
  t127:=Tryz.underlying110
  a127:=Tryz.isAgg110
  z127:=Tryz.sizeOf110
  v127:=Tryz.zeroValue110
  t138:=Tryz.underlying211
  a138:=Tryz.isAgg211
  z138:=Tryz.sizeOf211
  v138:=Tryz.zeroValue211
  t139:=Tryz.underlying212
  a139:=Tryz.isAgg212
  z139:=Tryz.sizeOf212
  v139:=Tryz.zeroValue212
  t146:=Tryz.underlying207
  a146:=Tryz.isAgg207
  z146:=Tryz.sizeOf207
  v146:=Tryz.zeroValue207
  t164:=Tryz.underlying139
  a164:=Tryz.isAgg139
  z164:=Tryz.sizeOf139
  v164:=Tryz.zeroValue139
  g1:=by kernel_rfl
  g3:=by kernel_rfl
  g4:=by kernel_rfl }
theorem Tryz.Builder_Extra_154:Builder.Extra Tryz.prog Tryz.lays154_ren:={
  sizeBuilder:=by kernel_rfl
  liesBuilder:=by kernel_rfl
  t5:=Tryz.underlying5
  a5:=Tryz.isAgg5
  z5:=Tryz.sizeOf5
  v5:=Tryz.zeroValue5
  infoByte:=by kernel_rfl
  cellsByte:=by kernel_rfl
  sizeByte:=by kernel_rfl
  neB5:=by decide }
open Go.RowKit Go.Lib in
theorem Tryz.strings_Replace (s old new:ByteArray) (n:Int) (m:Int) (w:World) (hs:s.size < 4294967281) (hm:w.cell? ⟨1,0,none⟩ = some (.int .i64 m)) (h1:1 ≤ old.size) (hlen:s.size + Lib.countB s old * new.size ≤ 140737488355328) :
    Calls Tryz.prog 143 #[.string s,.string old,.string new,.int .i64 n] w fun e w' =>
      e = .returned (.string ⟨(Lib.replace s.data.toList old.data.toList new.data.toList n).toArray⟩) ∧ Below w.heap.size w w':=Any.strings_Replace Tryz.lays154 Tryz.Builder_Extra_154 s old new n m w hs hm h1 hlen
def Tryz.lays105_ren:Go.Shelf.Ren:=⟨fun | 105 => 145 | 212 => 170 | 99 => 71 | 165 => 168 | 166 => 30 | 170 => 171 | 169 => 31 | 263 => 197 | 264 => 198 | 206 => 99 | 240 => 63 | 241 => 196 | 276 => 92 | 277 => 223 | n => n,fun | 9 => 9 | 3 => 3 | 4 => 4 | 20 => 20 | 0 => 0 | 46 => 138 | 109 => 204 | 5 => 5 | 72 => 67 | 76 => 71 | 51 => 175 | 146 => 207 | 53 => 82 | 148 => 243 | 70 => 65 | 37 => 22 | 75 => 70 | 127 => 110 | 164 => 139 | 80 => 73 | n => n,fun | n => n⟩
theorem Tryz.lays105:Go.Proofs.Lays.n105 Tryz.prog Tryz.lays105_ren:={
  mixed:=by kernel_rfl
  f99:=Tryz.func71.trans (congrArg some (by kernel_rfl))
  f105:=Tryz.func145.trans (congrArg some (by kernel_rfl))
  f165:=Tryz.func168.trans (congrArg some (by kernel_rfl))
  f166:=Tryz.func30.trans (congrArg some (by kernel_rfl))
  f169:=Tryz.func31.trans (congrArg some (by kernel_rfl))
  f170:=Tryz.func171.trans (congrArg some (by kernel_rfl))
  f206:=Tryz.func99.trans (congrArg some (by kernel_rfl))
  f212:=Tryz.func170.trans (congrArg some (by kernel_rfl))
  f240:=Tryz.func63.trans (congrArg some (by kernel_rfl))
  f241:=Tryz.func196.trans (congrArg some (by kernel_rfl))
  f263:=Tryz.func197.trans (congrArg some (by kernel_rfl))
  f264:=Tryz.func198.trans (congrArg some (by kernel_rfl))
  f276:=Tryz.func92.trans (congrArg some (by kernel_rfl))
  f277:=Tryz.func223.trans (congrArg some (by kernel_rfl))
  t0:=Tryz.underlying0
  a0:=Tryz.isAgg0
  z0:=Tryz.sizeOf0
  v0:=Tryz.zeroValue0
  t3:=Tryz.underlying3
  a3:=Tryz.isAgg3
  z3:=Tryz.sizeOf3
  v3:=Tryz.zeroValue3
  t4:=Tryz.underlying4
  a4:=Tryz.isAgg4
  z4:=Tryz.sizeOf4
  v4:=Tryz.zeroValue4
  t5:=Tryz.underlying5
  a5:=Tryz.isAgg5
  z5:=Tryz.sizeOf5
  v5:=Tryz.zeroValue5
  t9:=Tryz.underlying9
  a9:=Tryz.isAgg9
  z9:=Tryz.sizeOf9
  v9:=Tryz.zeroValue9
  t20:=Tryz.underlying20
  a20:=Tryz.isAgg20
  z20:=Tryz.sizeOf20
  v20:=Tryz.zeroValue20
  t37:=Tryz.underlying22
  a37:=Tryz.isAgg22
  z37:=Tryz.sizeOf22
  v37:=Tryz.zeroValue22
  t46:=Tryz.underlying138
  a46:=Tryz.isAgg138
  z46:=Tryz.sizeOf138
  v46:=Tryz.zeroValue138
  t51:=Tryz.underlying175
  a51:=Tryz.isAgg175
  z51:=Tryz.sizeOf175
  v51:=Tryz.zeroValue175
  t53:=Tryz.underlying82
  a53:=Tryz.isAgg82
  z53:=Tryz.sizeOf82
  v53:=Tryz.zeroValue82
  t70:=Tryz.underlying65
  a70:=Tryz.isAgg65
  z70:=Tryz.sizeOf65
  v70:=Tryz.zeroValue65
  t72:=Tryz.underlying67
  a72:=Tryz.isAgg67
  z72:=Tryz.sizeOf67
  v72:=Tryz.zeroValue67
  t75:=Tryz.underlying70
  a75:=Tryz.isAgg70
  z75:=Tryz.sizeOf70
  v75:=Tryz.zeroValue70
  t76:=Tryz.underlying71
  a76:=Tryz.isAgg71
  z76:=Tryz.sizeOf71
  v76:=Tryz.zeroValue71
  t109:=Tryz.underlying204
  a109:=Tryz.isAgg204
  z109:=Tryz.sizeOf204
  v109:=Tryz.zeroValue204
  t127:=Tryz.underlying110
  a127:=Tryz.isAgg110
  z127:=Tryz.sizeOf110
  v127:=Tryz.zeroValue110
  t146:=Tryz.underlying207
  a146:=Tryz.isAgg207
  z146:=Tryz.sizeOf207
  v146:=Tryz.zeroValue207
  t148:=Tryz.underlying243
  a148:=Tryz.isAgg243
  z148:=Tryz.sizeOf243
  v148:=Tryz.zeroValue243
  t164:=Tryz.underlying139
  a164:=Tryz.isAgg139
  z164:=Tryz.sizeOf139
  v164:=Tryz.zeroValue139 }
theorem Tryz.Builder_Extra_105:Builder.Extra Tryz.prog Tryz.lays105_ren:={
  sizeBuilder:=by kernel_rfl
  liesBuilder:=by kernel_rfl
  t5:=Tryz.underlying5
  a5:=Tryz.isAgg5
  z5:=Tryz.sizeOf5
  v5:=Tryz.zeroValue5
  infoByte:=by kernel_rfl
  cellsByte:=by kernel_rfl
  sizeByte:=by kernel_rfl
  neB5:=by decide }
open Go.RowKit Go.Lib in
theorem Tryz.strings_Repeat (s:ByteArray) (c:Nat) (w:World) (hc:c ≤ 9223372036854775807) (hlen:s.size * c ≤ 140737488355328) :
    Calls Tryz.prog 145 #[.string s,.int .i64 c] w fun e w' => e = .returned (.string ⟨(Lib.repeatL s.data.toList c).toArray⟩) ∧ Below w.heap.size w w':=Any.strings_Repeat Tryz.lays105 Tryz.Builder_Extra_105 s c w hc hlen
def Tryz.lays172_ren:Go.Shelf.Ren:=⟨fun | 172 => 142 | 244 => 166 | 245 => 70 | 247 => 69 | 279 => 95 | 280 => 96 | 281 => 97 | 282 => 98 | 287 => 94 | 316 => 122 | 171 => 124 | 205 => 123 | 321 => 120 | 322 => 121 | 243 => 146 | 246 => 115 | 283 => 137 | 284 => 138 | 285 => 139 | 286 => 140 | 129 => 161 | 317 => 160 | 318 => 162 | 319 => 163 | 320 => 164 | 337 => 190 | 338 => 191 | n => n,fun | 9 => 9 | 3 => 3 | 75 => 70 | 76 => 71 | 4 => 4 | 5 => 5 | 167 => 141 | 37 => 22 | 0 => 0 | 85 => 77 | 2 => 2 | 168 => 144 | 53 => 82 | 175 => 142 | 46 => 138 | 210 => 165 | 127 => 110 | 145 => 185 | 143 => 183 | 21 => 21 | 171 => 176 | 173 => 179 | 212 => 200 | 51 => 175 | 20 => 20 | 213 => 201 | 232 => 260 | 233 => 261 | 80 => 73 | n => n,fun | 15 => 2 | 16 => 3 | 17 => 4 | 18 => 13 | 19 => 14 | n => n⟩
theorem Tryz.lays172:Go.Proofs.Lays.n172 Tryz.prog Tryz.lays172_ren:={
  mixed:=by kernel_rfl
  f129:=Tryz.func161.trans (congrArg some (by kernel_rfl))
  f171:=Tryz.func124.trans (congrArg some (by kernel_rfl))
  f172:=Tryz.func142.trans (congrArg some (by kernel_rfl))
  f205:=Tryz.func123.trans (congrArg some (by kernel_rfl))
  f243:=Tryz.func146.trans (congrArg some (by kernel_rfl))
  f244:=Tryz.func166.trans (congrArg some (by kernel_rfl))
  f245:=Tryz.func70.trans (congrArg some (by kernel_rfl))
  f246:=Tryz.func115.trans (congrArg some (by kernel_rfl))
  f247:=Tryz.func69.trans (congrArg some (by kernel_rfl))
  f279:=Tryz.func95.trans (congrArg some (by kernel_rfl))
  f280:=Tryz.func96.trans (congrArg some (by kernel_rfl))
  f281:=Tryz.func97.trans (congrArg some (by kernel_rfl))
  f282:=Tryz.func98.trans (congrArg some (by kernel_rfl))
  f283:=Tryz.func137.trans (congrArg some (by kernel_rfl))
  f284:=Tryz.func138.trans (congrArg some (by kernel_rfl))
  f285:=Tryz.func139.trans (congrArg some (by kernel_rfl))
  f286:=Tryz.func140.trans (congrArg some (by kernel_rfl))
  f287:=Tryz.func94.trans (congrArg some (by kernel_rfl))
  f316:=Tryz.func122.trans (congrArg some (by kernel_rfl))
  f317:=Tryz.func160.trans (congrArg some (by kernel_rfl))
  f318:=Tryz.func162.trans (congrArg some (by kernel_rfl))
  f319:=Tryz.func163.trans (congrArg some (by kernel_rfl))
  f320:=Tryz.func164.trans (congrArg some (by kernel_rfl))
  f321:=Tryz.func120.trans (congrArg some (by kernel_rfl))
  f322:=Tryz.func121.trans (congrArg some (by kernel_rfl))
  f337:=Tryz.func190.trans (congrArg some (by kernel_rfl))
  f338:=Tryz.func191.trans (congrArg some (by kernel_rfl))
  t0:=Tryz.underlying0
  a0:=Tryz.isAgg0
  z0:=Tryz.sizeOf0
  v0:=Tryz.zeroValue0
  t2:=Tryz.underlying2
  a2:=Tryz.isAgg2
  z2:=Tryz.sizeOf2
  v2:=Tryz.zeroValue2
  t3:=Tryz.underlying3
  a3:=Tryz.isAgg3
  z3:=Tryz.sizeOf3
  v3:=Tryz.zeroValue3
  t4:=Tryz.underlying4
  a4:=Tryz.isAgg4
  z4:=Tryz.sizeOf4
  v4:=Tryz.zeroValue4
  t5:=Tryz.underlying5
  a5:=Tryz.isAgg5
  z5:=Tryz.sizeOf5
  v5:=Tryz.zeroValue5
  t9:=Tryz.underlying9
  a9:=Tryz.isAgg9
  z9:=Tryz.sizeOf9
  v9:=Tryz.zeroValue9
  t20:=Tryz.underlying20
  a20:=Tryz.isAgg20
  z20:=Tryz.sizeOf20
  v20:=Tryz.zeroValue20
  t21:=Tryz.underlying21
  a21:=Tryz.isAgg21
  z21:=Tryz.sizeOf21
  v21:=Tryz.zeroValue21
  t37:=Tryz.underlying22
  a37:=Tryz.isAgg22
  z37:=Tryz.sizeOf22
  v37:=Tryz.zeroValue22
  t46:=Tryz.underlying138
  a46:=Tryz.isAgg138
  z46:=Tryz.sizeOf138
  v46:=Tryz.zeroValue138
  t51:=Tryz.underlying175
  a51:=Tryz.isAgg175
  z51:=Tryz.sizeOf175
  v51:=Tryz.zeroValue175
  t53:=Tryz.underlying82
  a53:=Tryz.isAgg82
  z53:=Tryz.sizeOf82
  v53:=Tryz.zeroValue82
  t75:=Tryz.underlying70
  a75:=Tryz.isAgg70
  z75:=Tryz.sizeOf70
  v75:=Tryz.zeroValue70
  t76:=Tryz.underlying71
  a76:=Tryz.isAgg71
  z76:=Tryz.sizeOf71
  v76:=Tryz.zeroValue71
  t85:=Tryz.underlying77
  a85:=Tryz.isAgg77
  z85:=Tryz.sizeOf77
  v85:=Tryz.zeroValue77
  t127:=Tryz.underlying110
  a127:=Tryz.isAgg110
  z127:=Tryz.sizeOf110
  v127:=Tryz.zeroValue110
  t143:=Tryz.underlying183
  a143:=Tryz.isAgg183
  z143:=Tryz.sizeOf183
  v143:=Tryz.zeroValue183
  t145:=Tryz.underlying185
  a145:=Tryz.isAgg185
  z145:=Tryz.sizeOf185
  v145:=Tryz.zeroValue185
  t167:=Tryz.underlying141
  a167:=Tryz.isAgg141
  z167:=Tryz.sizeOf141
  v167:=Tryz.zeroValue141
  t168:=Tryz.underlying144
  a168:=Tryz.isAgg144
  z168:=Tryz.sizeOf144
  v168:=Tryz.zeroValue144
  t171:=Tryz.underlying176
  a171:=Tryz.isAgg176
  z171:=Tryz.sizeOf176
  v171:=Tryz.zeroValue176
  t173:=Tryz.underlying179
  a173:=Tryz.isAgg179
  z173:=Tryz.sizeOf179
  v173:=Tryz.zeroValue179
  t175:=Tryz.underlying142
  a175:=Tryz.isAgg142
  z175:=Tryz.sizeOf142
  v175:=Tryz.zeroValue142
  t210:=Tryz.underlying165
  a210:=Tryz.isAgg165
  z210:=Tryz.sizeOf165
  v210:=Tryz.zeroValue165
  t212:=Tryz.underlying200
  a212:=Tryz.isAgg200
  z212:=Tryz.sizeOf200
  v212:=Tryz.zeroValue200
  t213:=Tryz.underlying201
  a213:=Tryz.isAgg201
  z213:=Tryz.sizeOf201
  t232:=Tryz.underlying260
  a232:=Tryz.isAgg260
  z232:=Tryz.sizeOf260
  v232:=Tryz.zeroValue260
  t233:=Tryz.underlying261
  a233:=Tryz.isAgg261
  z233:=Tryz.sizeOf261
  v233:=Tryz.zeroValue261
  g15:=by kernel_rfl
  g16:=by kernel_rfl
  g17:=by kernel_rfl
  g18:=by kernel_rfl
  g19:=by kernel_rfl }
open Go.RowKit in
theorem Tryz.strconv_Atoi (s:ByteArray) (n:Int) (hl:s.size ≤ 18) (h:Lib.atoi s.data.toList = some n) (w:World) :
    Calls Tryz.prog 142 #[.string s] w fun e w' => e = .returned (.tuple #[.int .i64 n,.nilIface]) ∧ ∃ t,w' = Lib.bytesWorld w 5 t:=Any.strconv_Atoi Tryz.lays172 s n hl h w
def Tryz.laysM246_ren:Go.Shelf.Ren:=⟨fun | 246 => 115 | 283 => 137 | 284 => 138 | 285 => 139 | 286 => 140 | 129 => 161 | 317 => 160 | 318 => 162 | 319 => 163 | 320 => 164 | 337 => 190 | 338 => 191 | n => n,fun | 2 => 2 | 3 => 3 | 9 => 9 | 4 => 4 | 171 => 176 | 0 => 0 | 53 => 82 | 37 => 22 | 5 => 5 | 173 => 179 | 212 => 200 | 51 => 175 | 20 => 20 | 213 => 201 | 46 => 138 | 232 => 260 | 233 => 261 | n => n,fun | 17 => 4 | 18 => 13 | 19 => 14 | n => n⟩
theorem Tryz.laysM246:Go.Proofs.LaysM.n246 Tryz.prog Tryz.laysM246_ren:={
  mixed:=by kernel_rfl
  f129:=Tryz.func161.trans (congrArg some (by kernel_rfl))
  f246:=Tryz.func115.trans (congrArg some (by kernel_rfl))
  f283:=Tryz.func137.trans (congrArg some (by kernel_rfl))
  f284:=Tryz.func138.trans (congrArg some (by kernel_rfl))
  f285:=Tryz.func139.trans (congrArg some (by kernel_rfl))
  f286:=Tryz.func140.trans (congrArg some (by kernel_rfl))
  f317:=Tryz.func160.trans (congrArg some (by kernel_rfl))
  f318:=Tryz.func162.trans (congrArg some (by kernel_rfl))
  f319:=Tryz.func163.trans (congrArg some (by kernel_rfl))
  f320:=Tryz.func164.trans (congrArg some (by kernel_rfl))
  f337:=Tryz.func190.trans (congrArg some (by kernel_rfl))
  f338:=Tryz.func191.trans (congrArg some (by kernel_rfl))
  t0:=Tryz.underlying0
  a0:=Tryz.isAgg0
  z0:=Tryz.sizeOf0
  v0:=Tryz.zeroValue0
  t2:=Tryz.underlying2
  a2:=Tryz.isAgg2
  z2:=Tryz.sizeOf2
  v2:=Tryz.zeroValue2
  t3:=Tryz.underlying3
  a3:=Tryz.isAgg3
  z3:=Tryz.sizeOf3
  v3:=Tryz.zeroValue3
  t4:=Tryz.underlying4
  a4:=Tryz.isAgg4
  z4:=Tryz.sizeOf4
  v4:=Tryz.zeroValue4
  t5:=Tryz.underlying5
  a5:=Tryz.isAgg5
  z5:=Tryz.sizeOf5
  v5:=Tryz.zeroValue5
  t9:=Tryz.underlying9
  a9:=Tryz.isAgg9
  z9:=Tryz.sizeOf9
  v9:=Tryz.zeroValue9
  t20:=Tryz.underlying20
  a20:=Tryz.isAgg20
  z20:=Tryz.sizeOf20
  v20:=Tryz.zeroValue20
  t37:=Tryz.underlying22
  a37:=Tryz.isAgg22
  z37:=Tryz.sizeOf22
  v37:=Tryz.zeroValue22
  t46:=Tryz.underlying138
  a46:=Tryz.isAgg138
  z46:=Tryz.sizeOf138
  v46:=Tryz.zeroValue138
  t51:=Tryz.underlying175
  a51:=Tryz.isAgg175
  z51:=Tryz.sizeOf175
  v51:=Tryz.zeroValue175
  t53:=Tryz.underlying82
  a53:=Tryz.isAgg82
  z53:=Tryz.sizeOf82
  v53:=Tryz.zeroValue82
  t171:=Tryz.underlying176
  a171:=Tryz.isAgg176
  z171:=Tryz.sizeOf176
  v171:=Tryz.zeroValue176
  t173:=Tryz.underlying179
  a173:=Tryz.isAgg179
  z173:=Tryz.sizeOf179
  v173:=Tryz.zeroValue179
  t212:=Tryz.underlying200
  a212:=Tryz.isAgg200
  z212:=Tryz.sizeOf200
  v212:=Tryz.zeroValue200
  t213:=Tryz.underlying201
  a213:=Tryz.isAgg201
  z213:=Tryz.sizeOf201
  t232:=Tryz.underlying260
  a232:=Tryz.isAgg260
  z232:=Tryz.sizeOf260
  v232:=Tryz.zeroValue260
  t233:=Tryz.underlying261
  a233:=Tryz.isAgg261
  z233:=Tryz.sizeOf261
  v233:=Tryz.zeroValue261
  g17:=by kernel_rfl
  g18:=by kernel_rfl
  g19:=by kernel_rfl
  i0:=by kernel_rfl
  i2:=by kernel_rfl
  i3:=by kernel_rfl
  i4:=by kernel_rfl
  i5:=by kernel_rfl
  i9:=by kernel_rfl
  i20:=by kernel_rfl
  i37:=by kernel_rfl
  i46:=by kernel_rfl
  i51:=by kernel_rfl
  i53:=by kernel_rfl
  i171:=by kernel_rfl
  i173:=by kernel_rfl
  i212:=by kernel_rfl
  i232:=by kernel_rfl
  i233:=by kernel_rfl
  m17:=by kernel_rfl
  m18:=by kernel_rfl
  m19:=by kernel_rfl }
open Go.RowKit Go.Sort Go.Lib in
theorem Tryz.internal_strconv_FormatInt_10 (n : Int) (h0 : -9223372036854775808 ≤ n) (h1 : n ≤ 9223372036854775807) (w : World) (htab : Lib.TabIs Tryz.prog w "internal/strconv.uint64pow10" .u64 Lib.pow10Tab) :
    Calls Tryz.prog 115 #[.int .i64 n,.int .i64 10] w fun e w' => e = .returned (.string ⟨(Lib.itoa n).toArray⟩) ∧ ∃ k os,w' = grow (w.drewN k) os:=Any.internal_strconv_FormatInt_10 Tryz.laysM246 n h0 h1 w htab
end Go.Proofs
namespace Go.Proofs.YtdogjghalplohaaGreatDoor.fto
open Go.ChangeShapes Go.WideShapes Go.ChangeAt Go.RowKit
open mem Go.Sort
open ints (hide unhide)
set_option linter.unusedVariables false
def u8s (zs:List Int):List UInt8:=zs.map fun n => UInt8.ofNat n.toNat
theorem u8s_app (a b:List Int):u8s (a ++ b) = u8s a ++ u8s b:=by simp [u8s]
theorem str_u8s (zs:List Int):strOfNums zs = ⟨(u8s zs).toArray⟩:=rfl
theorem index_at (c:UInt8) (rest:List UInt8):∀ pre:List UInt8,c ∉ pre → Lib.index (pre ++ c :: rest) [c] = pre.length
 | [],_ => by simp [Lib.index]
 | b :: l,h => by
  have hb:¬ c = b:=fun e => h (by simp [e])
  have hl:c ∉ l:=fun e => h (by simp [e])
  have ih:=index_at c rest l hl
  rw [List.cons_append,Lib.index,if_neg (by simp [hb]),ih,if_neg (by simp)]
  simp
theorem index_no (c:UInt8):∀ l:List UInt8,c ∉ l → Lib.index l [c] = -1
 | [],_ => by simp [Lib.index]
 | b :: l,h => by
  have hb:¬ c = b:=fun e => h (by simp [e])
  have hl:c ∉ l:=fun e => h (by simp [e])
  rw [Lib.index,if_neg (by simp [hb]),index_no c l hl]
  simp
theorem cut_at (c:UInt8) (pre rest:List UInt8) (h:c ∉ pre):Lib.cut (pre ++ c :: rest) [c] = (pre,rest,true):=by
 have hi:=index_at c rest pre h
 unfold Lib.cut
 rw [hi,if_pos (by omega)]
 simp
theorem dig_not {zs:List Int} (h:∀ z ∈ zs,48 ≤ z ∧ z ≤ 57) {c:UInt8} (hc:c.toNat < 48 ∨ 57 < c.toNat):c ∉ u8s zs:=by
 intro hm
 obtain ⟨z,hz,e⟩:=List.mem_map.1 hm
 obtain ⟨h1,h2⟩:=h z hz
 have:(UInt8.ofNat z.toNat).toNat = z.toNat:=UInt8.toNat_ofNat_of_lt' (by show _ < 256;omega)
 rw [e] at this
 omega
end Go.Proofs.YtdogjghalplohaaGreatDoor.fto
namespace Go.Proofs.YtdogjghalplohaaGreatDoor.fto
open Go.ChangeShapes Go.WideShapes Go.ChangeAt Go.RowKit
open mem Go.Sort
open ints (hide unhide)
set_option linter.unusedVariables false
structure Fx (w:World):Prop where
 fw:Fw w
 most:∃ m,w.cell? ⟨1,0,none⟩ = some (.int .i64 m)
 ml:1 < w.heap.size
theorem Fx.below {w W:World} (h:Fx w) (hb:Below w.heap.size w W):Fx W:=by
 obtain ⟨m,hm⟩:=h.most
 exact ⟨h.fw.below hb,⟨m,(hb.cell (p:=⟨1,0,none⟩) h.ml).trans hm⟩,Nat.lt_of_lt_of_le h.ml hb.size⟩
theorem below_dn (w:World) (n:Nat):Below w.heap.size w (w.drewN n):=below_drewN (Below.refl _ _) n
end Go.Proofs.YtdogjghalplohaaGreatDoor.fto
namespace Go.Proofs.YtdogjghalplohaaGreatDoor.fto
open Go.ChangeShapes Go.WideShapes Go.ChangeAt Go.RowKit
open mem Go.Sort
open ints (hide unhide)
set_option linter.unusedVariables false
def itB (x:Int):ByteArray:=⟨(Lib.itoa x).toArray⟩
theorem itB_size (x:Int) (h0:-9223372036854775808 ≤ x) (h1:x ≤ 9223372036854775807):(itB x).size ≤ 21:=Lib.itoa_length_le x h0 h1
set_option maxRecDepth 100000 in
theorem fi_ok (x:Int) (h0:-9223372036854775808 ≤ x) (h1:x ≤ 9223372036854775807) (w:World) (hF:Fx w):Calls Tryz.prog 84 #[.int .i64 x,.int .i64 10] w fun e w' => e = .returned (.string (itB x)) ∧ Below w.heap.size w w':=by
 have IT:=hide (Tryz.internal_strconv_FormatInt_10 x h0 h1 w (hF.fw.tab w (Below.refl _ _)))
 obtain ⟨S,hS⟩:∃ S:ByteArray,S = ⟨(Lib.itoa x).toArray⟩:=⟨_,rfl⟩
 have HS:=hide (show itB x = S by rw [hS];rfl)
 rw [← hS] at IT
 clear hS
 go_enter Tryz.func84,Tryz.ntmps84
 go_wp2_with fail
 refine (unhide IT).mono ?_
 rintro e w1 ⟨rfl,kk,os,rfl⟩
 have b1:Below w.heap.size w (Go.Sort.grow (w.drewN kk) os):=Lib.below_grow _ _ (Nat.le_refl _) _ _
 generalize Go.Sort.grow (w.drewN kk) os = W at *
 go_wp2
 go_ret
 rw [unhide HS]
 exact ⟨rfl,b1⟩
set_option maxRecDepth 100000 in
theorem whole_ok (x:Int) (h0:-9223372036854775808 ≤ x) (h1:x ≤ 9223372036854775807) (w:World) (hF:Fx w):Calls Tryz.prog 42 #[.int .i64 x] w fun e w' => e = .returned (.string (itB x)) ∧ Below w.heap.size w w':=by
 have IT:=hide (fi_ok x h0 h1 w hF)
 generalize itB x = S at *
 go_enter Tryz.func42,Tryz.ntmps42
 go_wp2_with fail
 refine (unhide IT).mono ?_
 rintro e w1 ⟨rfl,b1⟩
 go_wp2
 go_ret
 exact ⟨rfl,b1⟩
end Go.Proofs.YtdogjghalplohaaGreatDoor.fto
