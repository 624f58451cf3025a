import Derived.Shelf.Strconv.Atoi
import Derived.Shelf.Strconv.Itoa0
import Derived.Shelf.Strconv.Itoa1
import Derived.Shelf.Strconv.Itoa2
import Derived.Shelf.Strconv.Itoa3
import Derived.Shelf.Strings.Cut
import Derived.Shelf.Strings.Shaped
import Derived.Shelf.Strings.Replace
import Derived.Shelf.Strings.Repeat
import Derived.Test.YtjlaoeigfokkiaaGreatDoorProg
import Derived.Test.YtjlaoeigfokkiaaGreatDoorBr8
import Derived.Lib.AtoiErrMem
namespace Go.Proofs
open Go.Shelf
def Tryz.lays145_ren:Go.Shelf.Ren:=⟨fun | 145 => 41 | 220 => 64 | 219 => 97 | 217 => 123 | 225 => 122 | 224 => 121 | 267 => 124 | 266 => 144 | 314 => 145 | n => n,fun | 9 => 9 | 4 => 4 | 59 => 77 | 3 => 3 | 5 => 5 | 46 => 99 | 146 => 154 | 51 => 114 | n => n,fun | 1 => 4 | n => n⟩
theorem Tryz.lays145:Go.Proofs.Lays.n145 Tryz.prog Tryz.lays145_ren:={
  mixed:=by kernel_rfl
  f145:=Tryz.func41.trans (congrArg some (by kernel_rfl))
  f217:=Tryz.func123.trans (congrArg some (by kernel_rfl))
  f219:=Tryz.func97.trans (congrArg some (by kernel_rfl))
  f220:=Tryz.func64.trans (congrArg some (by kernel_rfl))
  f224:=Tryz.func121.trans (congrArg some (by kernel_rfl))
  f225:=Tryz.func122.trans (congrArg some (by kernel_rfl))
  f266:=Tryz.func144.trans (congrArg some (by kernel_rfl))
  f267:=Tryz.func124.trans (congrArg some (by kernel_rfl))
  f314:=Tryz.func145.trans (congrArg some (by kernel_rfl))
  t3:=Tryz.underlying3
  a3:=Tryz.isAgg3
  z3:=Tryz.sizeOf3
  v3:=Tryz.zeroValue3
  t4:=Tryz.underlying4
  a4:=Tryz.isAgg4
  z4:=Tryz.sizeOf4
  v4:=Tryz.zeroValue4
  t5:=Tryz.underlying5
  a5:=Tryz.isAgg5
  z5:=Tryz.sizeOf5
  v5:=Tryz.zeroValue5
  t9:=Tryz.underlying9
  a9:=Tryz.isAgg9
  z9:=Tryz.sizeOf9
  v9:=Tryz.zeroValue9
  t46:=Tryz.underlying99
  a46:=Tryz.isAgg99
  z46:=Tryz.sizeOf99
  v46:=Tryz.zeroValue99
  t51:=Tryz.underlying114
  a51:=Tryz.isAgg114
  z51:=Tryz.sizeOf114
  v51:=Tryz.zeroValue114
  t59:=Tryz.underlying77
  a59:=Tryz.isAgg77
  z59:=Tryz.sizeOf77
  v59:=Tryz.zeroValue77
  t146:=Tryz.underlying154
  a146:=Tryz.isAgg154
  z146:=Tryz.sizeOf154
  v146:=Tryz.zeroValue154
  g1:=by kernel_rfl }
open Go.RowKit Go.Lib in
theorem Tryz.strings_Cut (s sep:ByteArray) (m:Int) (w:World) (hs:s.size < 4294967281) (hm:w.cell? ⟨4,0,none⟩ = some (.int .i64 m)) :
    Calls Tryz.prog 41 #[.string s,.string sep] w fun e w' => e = .returned (.tuple #[.string ⟨(Lib.cut s.data.toList sep.data.toList).1.toArray⟩,.string ⟨(Lib.cut s.data.toList sep.data.toList).2.1.toArray⟩,.bool (Lib.cut s.data.toList sep.data.toList).2.2]) ∧ ∃ n,w' = w.drewN n:=Any.strings_Cut Tryz.lays145 s sep m w hs hm
def Tryz.lays154_ren:Go.Shelf.Ren:=⟨fun | 154 => 51 | 138 => 77 | 165 => 78 | 143 => 79 | 166 => 80 | 197 => 81 | 169 => 82 | 195 => 106 | 218 => 107 | 240 => 108 | 241 => 109 | 219 => 97 | 260 => 110 | 276 => 140 | 277 => 141 | 217 => 123 | 225 => 122 | 224 => 121 | 267 => 124 | 266 => 144 | 314 => 145 | n => n,fun | 9 => 9 | 3 => 3 | 4 => 4 | 72 => 120 | 0 => 0 | 76 => 92 | 105 => 122 | 21 => 21 | 5 => 5 | 70 => 118 | 20 => 20 | 37 => 45 | 75 => 53 | 127 => 153 | 164 => 183 | 46 => 99 | 119 => 186 | 139 => 189 | 138 => 188 | 146 => 154 | 51 => 114 | 80 => 124 | n => n,fun | 1 => 4 | 3 => 6 | 4 => 7 | n => n⟩
theorem Tryz.lays154:Go.Proofs.Lays.n154 Tryz.prog Tryz.lays154_ren:={
  mixed:=by kernel_rfl
  f138:=Tryz.func77.trans (congrArg some (by kernel_rfl))
  f143:=Tryz.func79.trans (congrArg some (by kernel_rfl))
  f154:=Tryz.func51.trans (congrArg some (by kernel_rfl))
  f165:=Tryz.func78.trans (congrArg some (by kernel_rfl))
  f166:=Tryz.func80.trans (congrArg some (by kernel_rfl))
  f169:=Tryz.func82.trans (congrArg some (by kernel_rfl))
  f195:=Tryz.func106.trans (congrArg some (by kernel_rfl))
  f197:=Tryz.func81.trans (congrArg some (by kernel_rfl))
  f217:=Tryz.func123.trans (congrArg some (by kernel_rfl))
  f218:=Tryz.func107.trans (congrArg some (by kernel_rfl))
  f219:=Tryz.func97.trans (congrArg some (by kernel_rfl))
  f224:=Tryz.func121.trans (congrArg some (by kernel_rfl))
  f225:=Tryz.func122.trans (congrArg some (by kernel_rfl))
  f240:=Tryz.func108.trans (congrArg some (by kernel_rfl))
  f241:=Tryz.func109.trans (congrArg some (by kernel_rfl))
  f260:=Tryz.func110.trans (congrArg some (by kernel_rfl))
  f266:=Tryz.func144.trans (congrArg some (by kernel_rfl))
  f267:=Tryz.func124.trans (congrArg some (by kernel_rfl))
  f276:=Tryz.func140.trans (congrArg some (by kernel_rfl))
  f277:=Tryz.func141.trans (congrArg some (by kernel_rfl))
  f314:=Tryz.func145.trans (congrArg some (by kernel_rfl))
  t0:=Tryz.underlying0
  a0:=Tryz.isAgg0
  z0:=Tryz.sizeOf0
  v0:=Tryz.zeroValue0
  t3:=Tryz.underlying3
  a3:=Tryz.isAgg3
  z3:=Tryz.sizeOf3
  v3:=Tryz.zeroValue3
  t4:=Tryz.underlying4
  a4:=Tryz.isAgg4
  z4:=Tryz.sizeOf4
  v4:=Tryz.zeroValue4
  t5:=Tryz.underlying5
  a5:=Tryz.isAgg5
  z5:=Tryz.sizeOf5
  v5:=Tryz.zeroValue5
  t9:=Tryz.underlying9
  a9:=Tryz.isAgg9
  z9:=Tryz.sizeOf9
  v9:=Tryz.zeroValue9
  t20:=Tryz.underlying20
  a20:=Tryz.isAgg20
  z20:=Tryz.sizeOf20
  v20:=Tryz.zeroValue20
  t21:=Tryz.underlying21
  a21:=Tryz.isAgg21
  z21:=Tryz.sizeOf21
  v21:=Tryz.zeroValue21
  t37:=Tryz.underlying45
  a37:=Tryz.isAgg45
  z37:=Tryz.sizeOf45
  v37:=Tryz.zeroValue45
  t46:=Tryz.underlying99
  a46:=Tryz.isAgg99
  z46:=Tryz.sizeOf99
  v46:=Tryz.zeroValue99
  t51:=Tryz.underlying114
  a51:=Tryz.isAgg114
  z51:=Tryz.sizeOf114
  v51:=Tryz.zeroValue114
  t70:=Tryz.underlying118
  a70:=Tryz.isAgg118
  z70:=Tryz.sizeOf118
  v70:=Tryz.zeroValue118
  t72:=Tryz.underlying120
  a72:=Tryz.isAgg120
  z72:=Tryz.sizeOf120
  v72:=Tryz.zeroValue120
  t75:=Tryz.underlying53
  a75:=Tryz.isAgg53
  z75:=Tryz.sizeOf53
  v75:=Tryz.zeroValue53
  t76:=Tryz.underlying92
  a76:=Tryz.isAgg92
  z76:=Tryz.sizeOf92
  v76:=Tryz.zeroValue92
  t105:=Tryz.underlying122
  a105:=Tryz.isAgg122
  z105:=Tryz.sizeOf122
  v105:=Tryz.zeroValue122
  t119:=Tryz.underlying186
  a119:=Tryz.isAgg186
  z119:=Tryz.sizeOf186
  t127:=Tryz.underlying153
  a127:=Tryz.isAgg153
  z127:=Tryz.sizeOf153
  v127:=Tryz.zeroValue153
  t138:=Tryz.underlying188
  a138:=Tryz.isAgg188
  z138:=Tryz.sizeOf188
  v138:=Tryz.zeroValue188
  t139:=Tryz.underlying189
  a139:=Tryz.isAgg189
  z139:=Tryz.sizeOf189
  v139:=Tryz.zeroValue189
  t146:=Tryz.underlying154
  a146:=Tryz.isAgg154
  z146:=Tryz.sizeOf154
  v146:=Tryz.zeroValue154
  t164:=Tryz.underlying183
  a164:=Tryz.isAgg183
  z164:=Tryz.sizeOf183
  v164:=Tryz.zeroValue183
  g1:=by kernel_rfl
  g3:=by kernel_rfl
  g4:=by kernel_rfl }
theorem Tryz.Builder_Extra_154:Builder.Extra Tryz.prog Tryz.lays154_ren:={
  sizeBuilder:=by kernel_rfl
  liesBuilder:=by kernel_rfl
  t5:=Tryz.underlying5
  a5:=Tryz.isAgg5
  z5:=Tryz.sizeOf5
  v5:=Tryz.zeroValue5
  infoByte:=by kernel_rfl
  cellsByte:=by kernel_rfl
  sizeByte:=by kernel_rfl
  neB5:=by decide }
open Go.RowKit Go.Lib in
theorem Tryz.strings_Replace (s old new:ByteArray) (n:Int) (m:Int) (w:World) (hs:s.size < 4294967281) (hm:w.cell? ⟨4,0,none⟩ = some (.int .i64 m)) (h1:1 ≤ old.size) (hlen:s.size + Lib.countB s old * new.size ≤ 140737488355328) :
    Calls Tryz.prog 51 #[.string s,.string old,.string new,.int .i64 n] w fun e w' =>
      e = .returned (.string ⟨(Lib.replace s.data.toList old.data.toList new.data.toList n).toArray⟩) ∧ Below w.heap.size w w':=Any.strings_Replace Tryz.lays154 Tryz.Builder_Extra_154 s old new n m w hs hm h1 hlen
def Tryz.lays105_ren:Go.Shelf.Ren:=⟨fun | 105 => 54 | 212 => 83 | 99 => 39 | 165 => 78 | 166 => 80 | 170 => 84 | 169 => 82 | 263 => 111 | 264 => 112 | 206 => 62 | 240 => 108 | 241 => 109 | 276 => 140 | 277 => 141 | n => n,fun | 9 => 9 | 3 => 3 | 4 => 4 | 20 => 20 | 0 => 0 | 46 => 99 | 109 => 125 | 5 => 5 | 72 => 120 | 76 => 92 | 51 => 114 | 146 => 154 | 53 => 31 | 148 => 156 | 70 => 118 | 37 => 45 | 75 => 53 | 127 => 153 | 164 => 183 | 80 => 124 | n => n,fun | n => n⟩
theorem Tryz.lays105:Go.Proofs.Lays.n105 Tryz.prog Tryz.lays105_ren:={
  mixed:=by kernel_rfl
  f99:=Tryz.func39.trans (congrArg some (by kernel_rfl))
  f105:=Tryz.func54.trans (congrArg some (by kernel_rfl))
  f165:=Tryz.func78.trans (congrArg some (by kernel_rfl))
  f166:=Tryz.func80.trans (congrArg some (by kernel_rfl))
  f169:=Tryz.func82.trans (congrArg some (by kernel_rfl))
  f170:=Tryz.func84.trans (congrArg some (by kernel_rfl))
  f206:=Tryz.func62.trans (congrArg some (by kernel_rfl))
  f212:=Tryz.func83.trans (congrArg some (by kernel_rfl))
  f240:=Tryz.func108.trans (congrArg some (by kernel_rfl))
  f241:=Tryz.func109.trans (congrArg some (by kernel_rfl))
  f263:=Tryz.func111.trans (congrArg some (by kernel_rfl))
  f264:=Tryz.func112.trans (congrArg some (by kernel_rfl))
  f276:=Tryz.func140.trans (congrArg some (by kernel_rfl))
  f277:=Tryz.func141.trans (congrArg some (by kernel_rfl))
  t0:=Tryz.underlying0
  a0:=Tryz.isAgg0
  z0:=Tryz.sizeOf0
  v0:=Tryz.zeroValue0
  t3:=Tryz.underlying3
  a3:=Tryz.isAgg3
  z3:=Tryz.sizeOf3
  v3:=Tryz.zeroValue3
  t4:=Tryz.underlying4
  a4:=Tryz.isAgg4
  z4:=Tryz.sizeOf4
  v4:=Tryz.zeroValue4
  t5:=Tryz.underlying5
  a5:=Tryz.isAgg5
  z5:=Tryz.sizeOf5
  v5:=Tryz.zeroValue5
  t9:=Tryz.underlying9
  a9:=Tryz.isAgg9
  z9:=Tryz.sizeOf9
  v9:=Tryz.zeroValue9
  t20:=Tryz.underlying20
  a20:=Tryz.isAgg20
  z20:=Tryz.sizeOf20
  v20:=Tryz.zeroValue20
  t37:=Tryz.underlying45
  a37:=Tryz.isAgg45
  z37:=Tryz.sizeOf45
  v37:=Tryz.zeroValue45
  t46:=Tryz.underlying99
  a46:=Tryz.isAgg99
  z46:=Tryz.sizeOf99
  v46:=Tryz.zeroValue99
  t51:=Tryz.underlying114
  a51:=Tryz.isAgg114
  z51:=Tryz.sizeOf114
  v51:=Tryz.zeroValue114
  t53:=Tryz.underlying31
  a53:=Tryz.isAgg31
  z53:=Tryz.sizeOf31
  v53:=Tryz.zeroValue31
  t70:=Tryz.underlying118
  a70:=Tryz.isAgg118
  z70:=Tryz.sizeOf118
  v70:=Tryz.zeroValue118
  t72:=Tryz.underlying120
  a72:=Tryz.isAgg120
  z72:=Tryz.sizeOf120
  v72:=Tryz.zeroValue120
  t75:=Tryz.underlying53
  a75:=Tryz.isAgg53
  z75:=Tryz.sizeOf53
  v75:=Tryz.zeroValue53
  t76:=Tryz.underlying92
  a76:=Tryz.isAgg92
  z76:=Tryz.sizeOf92
  v76:=Tryz.zeroValue92
  t109:=Tryz.underlying125
  a109:=Tryz.isAgg125
  z109:=Tryz.sizeOf125
  v109:=Tryz.zeroValue125
  t127:=Tryz.underlying153
  a127:=Tryz.isAgg153
  z127:=Tryz.sizeOf153
  v127:=Tryz.zeroValue153
  t146:=Tryz.underlying154
  a146:=Tryz.isAgg154
  z146:=Tryz.sizeOf154
  v146:=Tryz.zeroValue154
  t148:=Tryz.underlying156
  a148:=Tryz.isAgg156
  z148:=Tryz.sizeOf156
  v148:=Tryz.zeroValue156
  t164:=Tryz.underlying183
  a164:=Tryz.isAgg183
  z164:=Tryz.sizeOf183
  v164:=Tryz.zeroValue183 }
theorem Tryz.Builder_Extra_105:Builder.Extra Tryz.prog Tryz.lays105_ren:={
  sizeBuilder:=by kernel_rfl
  liesBuilder:=by kernel_rfl
  t5:=Tryz.underlying5
  a5:=Tryz.isAgg5
  z5:=Tryz.sizeOf5
  v5:=Tryz.zeroValue5
  infoByte:=by kernel_rfl
  cellsByte:=by kernel_rfl
  sizeByte:=by kernel_rfl
  neB5:=by decide }
open Go.RowKit Go.Lib in
theorem Tryz.strings_Repeat (s:ByteArray) (c:Nat) (w:World) (hc:c ≤ 9223372036854775807) (hlen:s.size * c ≤ 140737488355328) :
    Calls Tryz.prog 54 #[.string s,.int .i64 c] w fun e w' => e = .returned (.string ⟨(Lib.repeatL s.data.toList c).toArray⟩) ∧ Below w.heap.size w w':=Any.strings_Repeat Tryz.lays105 Tryz.Builder_Extra_105 s c w hc hlen
def Tryz.lays172_ren:Go.Shelf.Ren:=⟨fun | 172 => 50 | 244 => 76 | 245 => 38 | 247 => 37 | 279 => 58 | 280 => 59 | 281 => 60 | 282 => 61 | 287 => 57 | 316 => 91 | 171 => 93 | 205 => 92 | 321 => 89 | 322 => 90 | 243 => 118 | 246 => 56 | 283 => 85 | 284 => 86 | 285 => 87 | 286 => 88 | 129 => 114 | 317 => 113 | 318 => 115 | 319 => 116 | 320 => 117 | 337 => 142 | 338 => 143 | n => n,fun | 9 => 9 | 3 => 3 | 75 => 53 | 76 => 92 | 4 => 4 | 5 => 5 | 167 => 96 | 37 => 45 | 0 => 0 | 85 => 54 | 2 => 2 | 168 => 100 | 53 => 31 | 175 => 97 | 46 => 99 | 210 => 137 | 127 => 153 | 145 => 164 | 143 => 162 | 21 => 21 | 171 => 129 | 173 => 132 | 212 => 159 | 51 => 114 | 20 => 20 | 213 => 160 | 232 => 174 | 233 => 224 | 80 => 124 | n => n,fun | 15 => 1 | 16 => 2 | 17 => 3 | 18 => 10 | 19 => 11 | n => n⟩
theorem Tryz.lays172:Go.Proofs.Lays.n172 Tryz.prog Tryz.lays172_ren:={
  mixed:=by kernel_rfl
  f129:=Tryz.func114.trans (congrArg some (by kernel_rfl))
  f171:=Tryz.func93.trans (congrArg some (by kernel_rfl))
  f172:=Tryz.func50.trans (congrArg some (by kernel_rfl))
  f205:=Tryz.func92.trans (congrArg some (by kernel_rfl))
  f243:=Tryz.func118.trans (congrArg some (by kernel_rfl))
  f244:=Tryz.func76.trans (congrArg some (by kernel_rfl))
  f245:=Tryz.func38.trans (congrArg some (by kernel_rfl))
  f246:=Tryz.func56.trans (congrArg some (by kernel_rfl))
  f247:=Tryz.func37.trans (congrArg some (by kernel_rfl))
  f279:=Tryz.func58.trans (congrArg some (by kernel_rfl))
  f280:=Tryz.func59.trans (congrArg some (by kernel_rfl))
  f281:=Tryz.func60.trans (congrArg some (by kernel_rfl))
  f282:=Tryz.func61.trans (congrArg some (by kernel_rfl))
  f283:=Tryz.func85.trans (congrArg some (by kernel_rfl))
  f284:=Tryz.func86.trans (congrArg some (by kernel_rfl))
  f285:=Tryz.func87.trans (congrArg some (by kernel_rfl))
  f286:=Tryz.func88.trans (congrArg some (by kernel_rfl))
  f287:=Tryz.func57.trans (congrArg some (by kernel_rfl))
  f316:=Tryz.func91.trans (congrArg some (by kernel_rfl))
  f317:=Tryz.func113.trans (congrArg some (by kernel_rfl))
  f318:=Tryz.func115.trans (congrArg some (by kernel_rfl))
  f319:=Tryz.func116.trans (congrArg some (by kernel_rfl))
  f320:=Tryz.func117.trans (congrArg some (by kernel_rfl))
  f321:=Tryz.func89.trans (congrArg some (by kernel_rfl))
  f322:=Tryz.func90.trans (congrArg some (by kernel_rfl))
  f337:=Tryz.func142.trans (congrArg some (by kernel_rfl))
  f338:=Tryz.func143.trans (congrArg some (by kernel_rfl))
  t0:=Tryz.underlying0
  a0:=Tryz.isAgg0
  z0:=Tryz.sizeOf0
  v0:=Tryz.zeroValue0
  t2:=Tryz.underlying2
  a2:=Tryz.isAgg2
  z2:=Tryz.sizeOf2
  v2:=Tryz.zeroValue2
  t3:=Tryz.underlying3
  a3:=Tryz.isAgg3
  z3:=Tryz.sizeOf3
  v3:=Tryz.zeroValue3
  t4:=Tryz.underlying4
  a4:=Tryz.isAgg4
  z4:=Tryz.sizeOf4
  v4:=Tryz.zeroValue4
  t5:=Tryz.underlying5
  a5:=Tryz.isAgg5
  z5:=Tryz.sizeOf5
  v5:=Tryz.zeroValue5
  t9:=Tryz.underlying9
  a9:=Tryz.isAgg9
  z9:=Tryz.sizeOf9
  v9:=Tryz.zeroValue9
  t20:=Tryz.underlying20
  a20:=Tryz.isAgg20
  z20:=Tryz.sizeOf20
  v20:=Tryz.zeroValue20
  t21:=Tryz.underlying21
  a21:=Tryz.isAgg21
  z21:=Tryz.sizeOf21
  v21:=Tryz.zeroValue21
  t37:=Tryz.underlying45
  a37:=Tryz.isAgg45
  z37:=Tryz.sizeOf45
  v37:=Tryz.zeroValue45
  t46:=Tryz.underlying99
  a46:=Tryz.isAgg99
  z46:=Tryz.sizeOf99
  v46:=Tryz.zeroValue99
  t51:=Tryz.underlying114
  a51:=Tryz.isAgg114
  z51:=Tryz.sizeOf114
  v51:=Tryz.zeroValue114
  t53:=Tryz.underlying31
  a53:=Tryz.isAgg31
  z53:=Tryz.sizeOf31
  v53:=Tryz.zeroValue31
  t75:=Tryz.underlying53
  a75:=Tryz.isAgg53
  z75:=Tryz.sizeOf53
  v75:=Tryz.zeroValue53
  t76:=Tryz.underlying92
  a76:=Tryz.isAgg92
  z76:=Tryz.sizeOf92
  v76:=Tryz.zeroValue92
  t85:=Tryz.underlying54
  a85:=Tryz.isAgg54
  z85:=Tryz.sizeOf54
  v85:=Tryz.zeroValue54
  t127:=Tryz.underlying153
  a127:=Tryz.isAgg153
  z127:=Tryz.sizeOf153
  v127:=Tryz.zeroValue153
  t143:=Tryz.underlying162
  a143:=Tryz.isAgg162
  z143:=Tryz.sizeOf162
  v143:=Tryz.zeroValue162
  t145:=Tryz.underlying164
  a145:=Tryz.isAgg164
  z145:=Tryz.sizeOf164
  v145:=Tryz.zeroValue164
  t167:=Tryz.underlying96
  a167:=Tryz.isAgg96
  z167:=Tryz.sizeOf96
  v167:=Tryz.zeroValue96
  t168:=Tryz.underlying100
  a168:=Tryz.isAgg100
  z168:=Tryz.sizeOf100
  v168:=Tryz.zeroValue100
  t171:=Tryz.underlying129
  a171:=Tryz.isAgg129
  z171:=Tryz.sizeOf129
  v171:=Tryz.zeroValue129
  t173:=Tryz.underlying132
  a173:=Tryz.isAgg132
  z173:=Tryz.sizeOf132
  v173:=Tryz.zeroValue132
  t175:=Tryz.underlying97
  a175:=Tryz.isAgg97
  z175:=Tryz.sizeOf97
  v175:=Tryz.zeroValue97
  t210:=Tryz.underlying137
  a210:=Tryz.isAgg137
  z210:=Tryz.sizeOf137
  v210:=Tryz.zeroValue137
  t212:=Tryz.underlying159
  a212:=Tryz.isAgg159
  z212:=Tryz.sizeOf159
  v212:=Tryz.zeroValue159
  t213:=Tryz.underlying160
  a213:=Tryz.isAgg160
  z213:=Tryz.sizeOf160
  t232:=Tryz.underlying174
  a232:=Tryz.isAgg174
  z232:=Tryz.sizeOf174
  v232:=Tryz.zeroValue174
  t233:=Tryz.underlying224
  a233:=Tryz.isAgg224
  z233:=Tryz.sizeOf224
  v233:=Tryz.zeroValue224
  g15:=by kernel_rfl
  g16:=by kernel_rfl
  g17:=by kernel_rfl
  g18:=by kernel_rfl
  g19:=by kernel_rfl }
open Go.RowKit in
theorem Tryz.strconv_Atoi (s:ByteArray) (n:Int) (hl:s.size ≤ 18) (h:Lib.atoi s.data.toList = some n) (w:World) :
    Calls Tryz.prog 50 #[.string s] w fun e w' => e = .returned (.tuple #[.int .i64 n,.nilIface]) ∧ ∃ t,w' = Lib.bytesWorld w 5 t:=Any.strconv_Atoi Tryz.lays172 s n hl h w
def Tryz.laysM246_ren:Go.Shelf.Ren:=⟨fun | 246 => 56 | 283 => 85 | 284 => 86 | 285 => 87 | 286 => 88 | 129 => 114 | 317 => 113 | 318 => 115 | 319 => 116 | 320 => 117 | 337 => 142 | 338 => 143 | n => n,fun | 2 => 2 | 3 => 3 | 9 => 9 | 4 => 4 | 171 => 129 | 0 => 0 | 53 => 31 | 37 => 45 | 5 => 5 | 173 => 132 | 212 => 159 | 51 => 114 | 20 => 20 | 213 => 160 | 46 => 99 | 232 => 174 | 233 => 224 | n => n,fun | 17 => 3 | 18 => 10 | 19 => 11 | n => n⟩
theorem Tryz.laysM246:Go.Proofs.LaysM.n246 Tryz.prog Tryz.laysM246_ren:={
  mixed:=by kernel_rfl
  f129:=Tryz.func114.trans (congrArg some (by kernel_rfl))
  f246:=Tryz.func56.trans (congrArg some (by kernel_rfl))
  f283:=Tryz.func85.trans (congrArg some (by kernel_rfl))
  f284:=Tryz.func86.trans (congrArg some (by kernel_rfl))
  f285:=Tryz.func87.trans (congrArg some (by kernel_rfl))
  f286:=Tryz.func88.trans (congrArg some (by kernel_rfl))
  f317:=Tryz.func113.trans (congrArg some (by kernel_rfl))
  f318:=Tryz.func115.trans (congrArg some (by kernel_rfl))
  f319:=Tryz.func116.trans (congrArg some (by kernel_rfl))
  f320:=Tryz.func117.trans (congrArg some (by kernel_rfl))
  f337:=Tryz.func142.trans (congrArg some (by kernel_rfl))
  f338:=Tryz.func143.trans (congrArg some (by kernel_rfl))
  t0:=Tryz.underlying0
  a0:=Tryz.isAgg0
  z0:=Tryz.sizeOf0
  v0:=Tryz.zeroValue0
  t2:=Tryz.underlying2
  a2:=Tryz.isAgg2
  z2:=Tryz.sizeOf2
  v2:=Tryz.zeroValue2
  t3:=Tryz.underlying3
  a3:=Tryz.isAgg3
  z3:=Tryz.sizeOf3
  v3:=Tryz.zeroValue3
  t4:=Tryz.underlying4
  a4:=Tryz.isAgg4
  z4:=Tryz.sizeOf4
  v4:=Tryz.zeroValue4
  t5:=Tryz.underlying5
  a5:=Tryz.isAgg5
  z5:=Tryz.sizeOf5
  v5:=Tryz.zeroValue5
  t9:=Tryz.underlying9
  a9:=Tryz.isAgg9
  z9:=Tryz.sizeOf9
  v9:=Tryz.zeroValue9
  t20:=Tryz.underlying20
  a20:=Tryz.isAgg20
  z20:=Tryz.sizeOf20
  v20:=Tryz.zeroValue20
  t37:=Tryz.underlying45
  a37:=Tryz.isAgg45
  z37:=Tryz.sizeOf45
  v37:=Tryz.zeroValue45
  t46:=Tryz.underlying99
  a46:=Tryz.isAgg99
  z46:=Tryz.sizeOf99
  v46:=Tryz.zeroValue99
  t51:=Tryz.underlying114
  a51:=Tryz.isAgg114
  z51:=Tryz.sizeOf114
  v51:=Tryz.zeroValue114
  t53:=Tryz.underlying31
  a53:=Tryz.isAgg31
  z53:=Tryz.sizeOf31
  v53:=Tryz.zeroValue31
  t171:=Tryz.underlying129
  a171:=Tryz.isAgg129
  z171:=Tryz.sizeOf129
  v171:=Tryz.zeroValue129
  t173:=Tryz.underlying132
  a173:=Tryz.isAgg132
  z173:=Tryz.sizeOf132
  v173:=Tryz.zeroValue132
  t212:=Tryz.underlying159
  a212:=Tryz.isAgg159
  z212:=Tryz.sizeOf159
  v212:=Tryz.zeroValue159
  t213:=Tryz.underlying160
  a213:=Tryz.isAgg160
  z213:=Tryz.sizeOf160
  t232:=Tryz.underlying174
  a232:=Tryz.isAgg174
  z232:=Tryz.sizeOf174
  v232:=Tryz.zeroValue174
  t233:=Tryz.underlying224
  a233:=Tryz.isAgg224
  z233:=Tryz.sizeOf224
  v233:=Tryz.zeroValue224
  g17:=by kernel_rfl
  g18:=by kernel_rfl
  g19:=by kernel_rfl
  i0:=by kernel_rfl
  i2:=by kernel_rfl
  i3:=by kernel_rfl
  i4:=by kernel_rfl
  i5:=by kernel_rfl
  i9:=by kernel_rfl
  i20:=by kernel_rfl
  i37:=by kernel_rfl
  i46:=by kernel_rfl
  i51:=by kernel_rfl
  i53:=by kernel_rfl
  i171:=by kernel_rfl
  i173:=by kernel_rfl
  i212:=by kernel_rfl
  i232:=by kernel_rfl
  i233:=by kernel_rfl
  m17:=by kernel_rfl
  m18:=by kernel_rfl
  m19:=by kernel_rfl }
open Go.RowKit Go.Sort Go.Lib in
theorem Tryz.internal_strconv_FormatInt_10 (n : Int) (h0 : -9223372036854775808 ≤ n) (h1 : n ≤ 9223372036854775807) (w : World) (htab : Lib.TabIs Tryz.prog w "internal/strconv.uint64pow10" .u64 Lib.pow10Tab) :
    Calls Tryz.prog 56 #[.int .i64 n,.int .i64 10] w fun e w' => e = .returned (.string ⟨(Lib.itoa n).toArray⟩) ∧ ∃ k os,w' = grow (w.drewN k) os:=Any.internal_strconv_FormatInt_10 Tryz.laysM246 n h0 h1 w htab
end Go.Proofs
namespace Go.Proofs.YtjlaoeigfokkiaaGreatDoor.fto
open Go.ChangeShapes Go.WideShapes Go.ChangeAt Go.RowKit
open mem Go.Sort
open ints (hide unhide)
set_option linter.unusedVariables false
def u8s (zs:List Int):List UInt8:=zs.map fun n => UInt8.ofNat n.toNat
theorem u8s_app (a b:List Int):u8s (a ++ b) = u8s a ++ u8s b:=by simp [u8s]
theorem str_u8s (zs:List Int):strOfNums zs = ⟨(u8s zs).toArray⟩:=rfl
theorem index_at (c:UInt8) (rest:List UInt8):∀ pre:List UInt8,c ∉ pre → Lib.index (pre ++ c :: rest) [c] = pre.length
 | [],_ => by simp [Lib.index]
 | b :: l,h => by
  have hb:¬ c = b:=fun e => h (by simp [e])
  have hl:c ∉ l:=fun e => h (by simp [e])
  have ih:=index_at c rest l hl
  rw [List.cons_append,Lib.index,if_neg (by simp [hb]),ih,if_neg (by simp)]
  simp
theorem index_no (c:UInt8):∀ l:List UInt8,c ∉ l → Lib.index l [c] = -1
 | [],_ => by simp [Lib.index]
 | b :: l,h => by
  have hb:¬ c = b:=fun e => h (by simp [e])
  have hl:c ∉ l:=fun e => h (by simp [e])
  rw [Lib.index,if_neg (by simp [hb]),index_no c l hl]
  simp
theorem cut_at (c:UInt8) (pre rest:List UInt8) (h:c ∉ pre):Lib.cut (pre ++ c :: rest) [c] = (pre,rest,true):=by
 have hi:=index_at c rest pre h
 unfold Lib.cut
 rw [hi,if_pos (by omega)]
 simp
theorem repl_no (c:UInt8) (s:List UInt8) (h:c ∉ s):Lib.replace s [c] [] 1 = s:=by
 have hi:=index_no c s h
 have hc:Lib.count s [c] = 0:=by unfold Lib.count Lib.countFrom;rw [hi];simp
 unfold Lib.replace Lib.replaceNum
 rw [if_neg (by simp),hc,if_pos (by omega)]
 rfl
theorem repl_one (c:UInt8) (pre rest:List UInt8) (h:c ∉ pre) (h2:c ∉ rest):Lib.replace (pre ++ c :: rest) [c] [] 1 = pre ++ rest:=by
 have hi:=index_at c rest pre h
 have hj:=index_no c rest h2
 have hd:(pre ++ c :: rest).drop (pre.length + [c].length) = rest:=by simp
 have hc:Lib.count (pre ++ c :: rest) [c] = 1:=by
  unfold Lib.count
  rw [Lib.countFrom,hi,if_neg (by simp),Int.toNat_natCast,hd]
  cases hl:(pre ++ c :: rest).length with
  | zero => simp at hl
  | succ n => rw [Lib.countFrom,hj];simp
 unfold Lib.replace Lib.replaceNum
 rw [if_neg (by simp),hc,if_neg (by omega)]
 show Lib.replaceK [c] [] 1 _ = _
 rw [Lib.replaceK_hit [c] [] 0 _ pre.length hi,hd]
 simp [Lib.replaceK]
theorem atoi_all:((List.range 801).all fun i => decide (Lib.atoi (u8s (eTail ((i:Int) - 399))) = some ((i:Int) - 400))) = true:=by decide +kernel
theorem atoi_tail {dp:Int} (h0:-399 ≤ dp) (h1:dp ≤ 401):Lib.atoi (u8s (eTail dp)) = some (dp - 1):=by
 obtain ⟨i,hi⟩:∃ i:Nat,dp = (i:Int) - 399:=⟨(dp + 399).toNat,by omega⟩
 have:=List.all_eq_true.1 atoi_all i (List.mem_range.2 (by omega))
 rw [hi,of_decide_eq_true this]
 congr 1
 omega
theorem tail_len (dp:Int):(eTail dp).length ≤ 4:=by
 unfold eTail eDig
 split <;> split <;> (try split) <;> simp
theorem dgt_rng (d nd j:Nat):48 ≤ dgt d nd j ∧ dgt d nd j ≤ 57:=by
 rw [dgt_eq]
 have:d / 10 ^ (nd - 1 - j) % 10 < 10:=Nat.mod_lt _ (by decide)
 omega
def dgs (d k:Nat):List Int:=(List.range k).map (dgt d (Lib.nDigits d))
theorem dgs_len (d k:Nat):(dgs d k).length = k:=by simp [dgs]
theorem dgs_cons (d k:Nat) (hk:1 ≤ k):dgs d k = dgt d (Lib.nDigits d) 0 :: dTail d (Lib.nDigits d) k:=by
 obtain ⟨m,rfl⟩:∃ m,k = m + 1:=⟨k - 1,by omega⟩
 simp [dgs,dTail,List.range_succ_eq_map,Nat.add_comm]
theorem dig_not {zs:List Int} (h:∀ z ∈ zs,48 ≤ z ∧ z ≤ 57) {c:UInt8} (hc:c.toNat < 48 ∨ 57 < c.toNat):c ∉ u8s zs:=by
 intro hm
 obtain ⟨z,hz,e⟩:=List.mem_map.1 hm
 obtain ⟨h1,h2⟩:=h z hz
 have:(UInt8.ofNat z.toNat).toNat = z.toNat:=UInt8.toNat_ofNat_of_lt' (by show _ < 256;omega)
 rw [e] at this
 omega
theorem tail_rng (d nd k:Nat):∀ z ∈ dTail d nd k,48 ≤ z ∧ z ≤ 57:=by
 intro z hz
 obtain ⟨j,-,rfl⟩:=List.mem_map.1 hz
 exact dgt_rng _ _ _
def manT (d k:Nat):List Int:=if dTail d (Lib.nDigits d) k = [] then [dgt d (Lib.nDigits d) 0] else dgt d (Lib.nDigits d) 0 :: 46 :: dTail d (Lib.nDigits d) k
theorem sTxt_eq (d k:Nat) (q:Int):sTxt d (Lib.nDigits d) k q = manT d k ++ 101 :: eTail ((Lib.nDigits d:Int) + q):=rfl
theorem man_no (d k:Nat):(101:UInt8) ∉ u8s (manT d k):=by
 unfold manT
 have h0:=dgt_rng d (Lib.nDigits d) 0
 split
 ·exact dig_not (fun z hz => by simp at hz;subst hz;exact h0) (.inr (by decide))
 ·intro hm
  rw [show u8s (dgt d (Lib.nDigits d) 0 :: 46 :: dTail d (Lib.nDigits d) k) = u8s [dgt d (Lib.nDigits d) 0] ++ 46 :: u8s (dTail d (Lib.nDigits d) k) from rfl] at hm
  rcases List.mem_append.1 hm with h | h
  ·exact dig_not (fun z hz => by simp at hz;subst hz;exact h0) (.inr (by decide)) h
  ·rcases List.mem_cons.1 h with h | h
   ·exact absurd h (by decide)
   ·exact dig_not (tail_rng _ _ _) (.inr (by decide)) h
theorem man_repl (d k:Nat) (hk:1 ≤ k):Lib.replace (u8s (manT d k)) [46] [] 1 = u8s (dgs d k):=by
 have h0:=dgt_rng d (Lib.nDigits d) 0
 have hg:(46:UInt8) ∉ u8s [dgt d (Lib.nDigits d) 0]:=dig_not (fun z hz => by simp at hz;subst hz;exact h0) (.inl (by decide))
 rw [dgs_cons d k hk]
 unfold manT
 split
 ·rename_i h
  rw [h,repl_no _ _ hg]
 ·rw [show u8s (dgt d (Lib.nDigits d) 0 :: 46 :: dTail d (Lib.nDigits d) k) = u8s [dgt d (Lib.nDigits d) 0] ++ 46 :: u8s (dTail d (Lib.nDigits d) k) from rfl,repl_one _ _ _ hg (dig_not (tail_rng _ _ _) (.inl (by decide)))]
  rfl
theorem man_len (d k:Nat) (hk:1 ≤ k):(manT d k).length ≤ k + 1:=by
 unfold manT
 have:(dTail d (Lib.nDigits d) k).length = k - 1:=by simp [dTail]
 split <;> simp <;> omega
end Go.Proofs.YtjlaoeigfokkiaaGreatDoor.fto
namespace Go.Proofs.YtjlaoeigfokkiaaGreatDoor.fto
open Go.ChangeShapes Go.WideShapes Go.ChangeAt Go.RowKit
open mem Go.Sort
open ints (hide unhide)
set_option linter.unusedVariables false
structure Fx (w:World):Prop where
 fw:Fw w
 most:∃ m,w.cell? ⟨4,0,none⟩ = some (.int .i64 m)
 ml:4 < w.heap.size
theorem Fx.below {w W:World} (h:Fx w) (hb:Below w.heap.size w W):Fx W:=by
 obtain ⟨m,hm⟩:=h.most
 exact ⟨h.fw.below hb,⟨m,(hb.cell (p:=⟨4,0,none⟩) h.ml).trans hm⟩,Nat.lt_of_lt_of_le h.ml hb.size⟩
theorem below_dn (w:World) (n:Nat):Below w.heap.size w (w.drewN n):=below_drewN (Below.refl _ _) n
set_option maxRecDepth 100000 in
theorem shortest_in (a d:Nat) (q:Int) (w:World) (hF:Fx w) (hc:Chosen a d q)
  (HT:∀ w,Fw w → Calls Tryz.prog 49 #[.float .f64 a,.int .u8 101,.int .i64 (-1),.int .i64 64] w fun e w' => ∃ k,Kept d k ∧ e = .returned (.string (strOfNums (sTxt d (Lib.nDigits d) k q))) ∧ Below w.heap.size w w') :
  Calls Tryz.prog 27 #[.float .f64 a] w fun e w' => ∃ k,Kept d k ∧ e = .returned (.tuple #[.string (strOfNums (dgs d k)),.int .i64 ((Lib.nDigits d:Int) + q)]) ∧ Below w.heap.size w w':=by
 obtain ⟨-,d1,d2,q1,q2⟩:=hc.rng
 have n4:Lib.nDigits d ≤ 18:=nd_le d1 (Nat.lt_of_le_of_lt d2 (by decide))
 have n1:=(nd_pow d d1).2.2
 have HH:=hide (HT w hF.fw)
 have HF:=hide hF
 clear HT hF hc
 go_enter Tryz.func27,Tryz.ntmps27
 go_wp2_with fail
 refine (unhide HH).mono ?_
 rintro e w1 ⟨k,hk,rfl,b1⟩
 have F1:=(unhide HF).below b1
 obtain ⟨m1,hm1⟩:=F1.most
 have hk18:k ≤ 18:=by have:=hk.2.1;omega
 have hk1:=hk.1
 have hsz:(strOfNums (sTxt d (Lib.nDigits d) k q)).size ≤ 40:=by
  rw [strOfNums_size,sTxt_eq]
  have:=man_len d k hk1
  have:=tail_len ((Lib.nDigits d:Int) + q)
  simp
  omega
 have CU:=Tryz.strings_Cut (strOfNums (sTxt d (Lib.nDigits d) k q)) ⟨#[101]⟩ m1 w1 (by omega) hm1
 have ec:Lib.cut (strOfNums (sTxt d (Lib.nDigits d) k q)).data.toList (⟨#[101]⟩:ByteArray).data.toList = (u8s (manT d k),u8s (eTail ((Lib.nDigits d:Int) + q)),true):=by
  show Lib.cut (u8s (sTxt d (Lib.nDigits d) k q)) [101] = _
  rw [sTxt_eq,u8s_app]
  exact cut_at 101 _ _ (man_no d k)
 rw [ec] at CU
 obtain ⟨T,hT⟩:∃ T,T = strOfNums (sTxt d (Lib.nDigits d) k q):=⟨_,rfl⟩
 obtain ⟨S1,hS1⟩:∃ S,S = (⟨(u8s (manT d k)).toArray⟩:ByteArray):=⟨_,rfl⟩
 obtain ⟨S2,hS2⟩:∃ S,S = (⟨(u8s (eTail ((Lib.nDigits d:Int) + q))).toArray⟩:ByteArray):=⟨_,rfl⟩
 simp only [← hS1,← hS2,← hT] at CU
 have HC:=hide CU
 have l1:S1.size ≤ 30:=by rw [hS1];show (u8s (manT d k)).toArray.size ≤ 30;have:=man_len d k hk1;simp [u8s];omega
 have l2:S2.size ≤ 18:=by rw [hS2];show (u8s (eTail ((Lib.nDigits d:Int) + q))).toArray.size ≤ 18;have:=tail_len ((Lib.nDigits d:Int) + q);simp [u8s];omega
 have hat:Lib.atoi S2.data.toList = some ((Lib.nDigits d:Int) + q - 1):=by rw [hS2];exact atoi_tail (by omega) (by omega)
 have hre:Lib.replace S1.data.toList (⟨#[46]⟩:ByteArray).data.toList (⟨#[]⟩:ByteArray).data.toList 1 = u8s (dgs d k):=by rw [hS1];exact man_repl d k hk1
 obtain ⟨D,hD⟩:∃ D,D = strOfNums (dgs d k):=⟨_,rfl⟩
 have hre':(⟨(Lib.replace S1.data.toList (⟨#[46]⟩:ByteArray).data.toList (⟨#[]⟩:ByteArray).data.toList 1).toArray⟩:ByteArray) = D:=by rw [hre,hD,str_u8s]
 have HD:=hide hD
 have R:=hide (⟨hk,b1,F1⟩:Kept d k ∧ Below w.heap.size w w1 ∧ Fx w1)
 obtain ⟨X,hX⟩:∃ X:Int,X = (Lib.nDigits d:Int) + q - 1:=⟨_,rfl⟩
 rw [← hX] at hat
 have AT:=hide (fun W => Tryz.strconv_Atoi S2 X l2 hat W)
 have RE:=hide (fun W hF => Tryz.strings_Replace S1 ⟨#[46]⟩ ⟨#[]⟩ 1 (Classical.choose (Fx.most hF)) W (by omega) (Classical.choose_spec (Fx.most hF)) (by decide) (by show S1.size + _ * 0 ≤ _;omega))
 rw [hre'] at RE
 have xb:-1000 ≤ X ∧ X ≤ 1000:=by omega
 have HX:=hide hX
 rw [← hT]
 clear hX hre hre' hat hS1 hS2 hT hk b1 F1 hm1 hD ec CU hsz HH HF
 go_wp2_with fail
 refine (unhide HC).mono ?_
 rintro e w2 ⟨rfl,n,rfl⟩
 have b2:=below_dn w1 n
 have F2:=(unhide R).2.2.below b2
 generalize w1.drewN n = W2 at *
 go_wp2_with fail
 refine (unhide AT W2).mono ?_
 rintro e w3 ⟨rfl,t,rfl⟩
 have b3:=Lib.bytesWorld_below W2 5 t
 have F3:=F2.below b3
 generalize Lib.bytesWorld W2 5 t = W3 at *
 go_wp2_with fail
 refine (unhide RE W3 F3).mono ?_
 rintro e w4 ⟨rfl,b4⟩
 have B:=hide (show Below w.heap.size w w4 from by
  have c1:=(unhide R).2.1
  have c2:=c1.trans (b2.mono c1.size)
  have c3:=c2.trans (b3.mono c2.size)
  exact c3.trans (b4.mono c3.size))
 clear b2 b3 b4 F2 F3 RE AT HC
 go_wp2
 go_ret2
 refine ⟨k,(unhide R).1,?_,unhide B⟩
 have e:(Lib.nDigits d:Int) + q = X + 1:=by have:=unhide HX;omega
 rw [← unhide HD,e]
 rfl
set_option maxRecDepth 100000 in
theorem shortest_any (a:Nat) (ha:0 < a) (hai:a < infR):∃ d q,Chosen a d q ∧ ∀ w,Fx w → Calls Tryz.prog 27 #[.float .f64 a] w fun e w' => ∃ k,Kept d k ∧ e = .returned (.tuple #[.string (strOfNums (dgs d k)),.int .i64 ((Lib.nDigits d:Int) + q)]) ∧ Below w.heap.size w w':=by
 obtain ⟨d,q,hc,H⟩:=ffmt_any a ha hai
 exact ⟨d,q,hc,fun w hF => shortest_in a d q w hF hc H⟩
end Go.Proofs.YtjlaoeigfokkiaaGreatDoor.fto
namespace Go.Proofs.YtjlaoeigfokkiaaGreatDoor.fto
open Go.ChangeShapes Go.WideShapes Go.ChangeAt Go.RowKit
open mem Go.Sort
open ints (hide unhide)
set_option linter.unusedVariables false
def itB (x:Int):ByteArray:=⟨(Lib.itoa x).toArray⟩
def rpB (n:Nat):ByteArray:=⟨(Lib.repeatL [48] n).toArray⟩
def expB (D:ByteArray) (x:Int):ByteArray:=(if 1 < D.size then D.extract 0 1 ++ (⟨#[46]⟩ ++ D.extract 1 D.size) else D.extract 0 1) ++ ⟨#[101]⟩ ++ itB x
def layB (D:ByteArray) (p:Int):ByteArray:=
 if p < -5 ∨ 21 < p then expB D (p - 1) else if p ≤ 0 then ⟨#[48,46]⟩ ++ rpB (-p).toNat ++ D else if (D.size:Int) ≤ p then D ++ rpB (p.toNat - D.size) ++ ⟨#[46,48]⟩ else D.extract 0 p.toNat ++ ⟨#[46]⟩ ++ D.extract p.toNat D.size
theorem itB_size (x:Int) (h0:-9223372036854775808 ≤ x) (h1:x ≤ 9223372036854775807):(itB x).size ≤ 21:=Lib.itoa_length_le x h0 h1
theorem rpB_size (n:Nat):(rpB n).size = n:=by
 show (Lib.repeatL [48] n).toArray.size = n
 rw [List.size_toArray,Lib.repeatL_length]
 simp
set_option maxRecDepth 100000 in
theorem fi_ok (x:Int) (h0:-9223372036854775808 ≤ x) (h1:x ≤ 9223372036854775807) (w:World) (hF:Fx w):Calls Tryz.prog 35 #[.int .i64 x,.int .i64 10] w fun e w' => e = .returned (.string (itB x)) ∧ Below w.heap.size w w':=by
 have IT:=hide (Tryz.internal_strconv_FormatInt_10 x h0 h1 w (hF.fw.tab w (Below.refl _ _)))
 obtain ⟨S,hS⟩:∃ S:ByteArray,S = ⟨(Lib.itoa x).toArray⟩:=⟨_,rfl⟩
 have HS:=hide (show itB x = S by rw [hS];rfl)
 rw [← hS] at IT
 clear hS
 go_enter Tryz.func35,Tryz.ntmps35
 go_wp2_with fail
 refine (unhide IT).mono ?_
 rintro e w1 ⟨rfl,kk,os,rfl⟩
 have b1:Below w.heap.size w (Go.Sort.grow (w.drewN kk) os):=Lib.below_grow _ _ (Nat.le_refl _) _ _
 generalize Go.Sort.grow (w.drewN kk) os = W at *
 go_wp2
 go_ret
 rw [unhide HS]
 exact ⟨rfl,b1⟩
set_option maxRecDepth 100000 in
theorem whole_ok (x:Int) (h0:-9223372036854775808 ≤ x) (h1:x ≤ 9223372036854775807) (w:World) (hF:Fx w):Calls Tryz.prog 17 #[.int .i64 x] w fun e w' => e = .returned (.string (itB x)) ∧ Below w.heap.size w w':=by
 have IT:=hide (fi_ok x h0 h1 w hF)
 generalize itB x = S at *
 go_enter Tryz.func17,Tryz.ntmps17
 go_wp2_with fail
 refine (unhide IT).mono ?_
 rintro e w1 ⟨rfl,b1⟩
 go_wp2
 go_ret
 exact ⟨rfl,b1⟩
theorem sz_ext (D:ByteArray) (i j:Nat):(D.extract i j).size ≤ D.size:=by
 rw [ByteArray.size_extract];omega
set_option maxRecDepth 100000 in
theorem exp_ok (D:ByteArray) (x:Int) (w:World) (hF:Fx w) (h1:1 ≤ D.size) (hD:D.size ≤ 1000) (x0:-10000 ≤ x) (x1:x ≤ 10000):Calls Tryz.prog 53 #[.string D,.int .i64 x] w fun e w' => e = .returned (.string (expB D x)) ∧ Below w.heap.size w w':=by
 have WT:=hide (whole_ok x (by omega) (by omega) w hF)
 have hl:=itB_size x (by omega) (by omega)
 have e1:=sz_ext D 0 1
 have e2:=sz_ext D 1 D.size
 have HE:=hide (show expB D x = (if 1 < D.size then D.extract 0 1 ++ (⟨#[46]⟩ ++ D.extract 1 D.size) else D.extract 0 1) ++ ⟨#[101]⟩ ++ itB x from rfl)
 generalize itB x = S at *
 by_cases h2:1 < D.size
 ·have i1:(1:Int) < (D.size:Int):=by omega
  go_enter Tryz.func53,Tryz.ntmps53
  go_wp2_with fail
  refine (unhide WT).mono ?_
  rintro e w1 ⟨rfl,b1⟩
  go_wp2
  go_ret
  rw [unhide HE,if_pos h2]
  exact ⟨rfl,b1⟩
 ·have i1:¬ (1:Int) < (D.size:Int):=by omega
  go_enter Tryz.func53,Tryz.ntmps53
  go_wp2_with fail
  refine (unhide WT).mono ?_
  rintro e w1 ⟨rfl,b1⟩
  go_wp2
  go_ret
  rw [unhide HE,if_neg h2]
  exact ⟨rfl,b1⟩
set_option maxRecDepth 100000 in
theorem lay_ok (D:ByteArray) (p:Int) (w:World) (hF:Fx w) (h1:1 ≤ D.size) (hD:D.size ≤ 1000) (p0:-5000 ≤ p) (p1:p ≤ 5000):Calls Tryz.prog 29 #[.string D,.int .i64 p] w fun e w' => e = .returned (.string (layB D p)) ∧ Below w.heap.size w w':=by
 by_cases c1:p < -5 ∨ 21 < p
 ·have EX:=hide (exp_ok D (p - 1) w hF h1 hD (by omega) (by omega))
  have HE:=hide (show layB D p = expB D (p - 1) by unfold layB;rw [if_pos c1])
  generalize expB D (p - 1) = S at *
  by_cases c2:p < -5
  ·clear c1
   go_enter Tryz.func29,Tryz.ntmps29
   go_wp2_with fail
   refine (unhide EX).mono ?_
   rintro e w1 ⟨rfl,b1⟩
   go_wp2
   go_ret
   rw [unhide HE]
   exact ⟨rfl,b1⟩
  ·have c3:21 < p:=by omega
   clear c1
   go_enter Tryz.func29,Tryz.ntmps29
   go_wp2_with fail
   refine (unhide EX).mono ?_
   rintro e w1 ⟨rfl,b1⟩
   go_wp2
   go_ret
   rw [unhide HE]
   exact ⟨rfl,b1⟩
 ·have c2:¬ p < -5:=fun h => c1 (.inl h)
  have c3:¬ 21 < p:=fun h => c1 (.inr h)
  by_cases c4:p ≤ 0
  ·obtain ⟨n,hn⟩:∃ n:Nat,-p = n:=⟨(-p).toNat,by omega⟩
   have RP:=hide (Tryz.strings_Repeat ⟨#[48]⟩ n w (by omega) (by show 1 * n ≤ _;omega))
   have HE:=hide (show layB D p = ⟨#[48,46]⟩ ++ rpB n ++ D by unfold layB;rw [if_neg c1,if_pos c4,hn,Int.toNat_natCast])
   have hl:(rpB n).size ≤ 10:=by rw [rpB_size];omega
   have er:(⟨(Lib.repeatL (⟨#[48]⟩:ByteArray).data.toList n).toArray⟩:ByteArray) = rpB n:=rfl
   rw [er] at RP
   generalize rpB n = S at *
   clear c1 er
   go_enter Tryz.func29,Tryz.ntmps29
   go_wp2_with fail
   refine (unhide RP).mono ?_
   rintro e w1 ⟨rfl,b1⟩
   go_wp2
   go_ret
   rw [unhide HE]
   exact ⟨rfl,b1⟩
  ·by_cases c5:(D.size:Int) ≤ p
   ·obtain ⟨n,hn⟩:∃ n:Nat,p - (D.size:Int) = n:=⟨(p - D.size).toNat,by omega⟩
    have RP:=hide (Tryz.strings_Repeat ⟨#[48]⟩ n w (by omega) (by show 1 * n ≤ _;omega))
    have HE:=hide (show layB D p = D ++ rpB n ++ ⟨#[46,48]⟩ by unfold layB;rw [if_neg c1,if_neg c4,if_pos c5,show p.toNat - D.size = n by omega])
    have hl:(rpB n).size ≤ 30:=by rw [rpB_size];omega
    have er:(⟨(Lib.repeatL (⟨#[48]⟩:ByteArray).data.toList n).toArray⟩:ByteArray) = rpB n:=rfl
    rw [er] at RP
    generalize rpB n = S at *
    clear c1 er
    go_enter Tryz.func29,Tryz.ntmps29
    go_wp2_with fail
    refine (unhide RP).mono ?_
    rintro e w1 ⟨rfl,b1⟩
    go_wp2
    go_ret
    rw [unhide HE]
    exact ⟨rfl,b1⟩
   ·obtain ⟨n,rfl⟩:∃ n:Nat,p = n:=⟨p.toNat,by omega⟩
    have HE:=hide (show layB D (n:Int) = D.extract 0 n ++ ⟨#[46]⟩ ++ D.extract n D.size by unfold layB;rw [if_neg c1,if_neg c4,if_neg c5,Int.toNat_natCast])
    have e1:=sz_ext D 0 n
    have e2:=sz_ext D n D.size
    have hn:n < D.size:=by omega
    clear c1
    go_enter Tryz.func29,Tryz.ntmps29
    go_wp2_with fail
    go_region
    all_goals go_wp2
    all_goals go_ret
    all_goals rw [unhide HE]
    all_goals exact ⟨rfl,(Below.refl _ _).drew⟩
end Go.Proofs.YtjlaoeigfokkiaaGreatDoor.fto
