import Derived.Test.YtdogjghalplohaaGreatDoorJs11
import Derived.Test.YtdogjghalplohaaGreatDoorJs1
import Derived.Test.YtdogjghalplohaaGreatDoorJs5
import Derived.Test.YtdogjghalplohaaGreatDoorJs12
import Derived.Test.YtdogjghalplohaaGreatDoorJs17
import Derived.Test.YtdogjghalplohaaGreatDoorJs18
import Derived.Test.YtdogjghalplohaaGreatDoorJs16
import Derived.Shelf.Strconv.ParseIntPublic10
import Derived.Shelf.Strings.Prefix
import Derived.Shelf.Strings.IndexAny
import Derived.Shelf.Strings.IndexAnyAll
import Derived.Test.YtdogjghalplohaaGreatDoorProg
import Derived.Shelf.Strings.Trim
import Derived.Shelf.Strings.SlTrimAscii
import Derived.Test.YtdogjghalplohaaGreatDoorJs13
import Derived.Laws.Cover2
import Derived.Laws.FloatArith
import Derived.Laws.Externs
import Derived.Laws.BitsAllLaws
namespace Go.Proofs.YtdogjghalplohaaGreatDoor.mem
set_option linter.unusedVariables false
def Dg (l:List Int):Prop:=∀ z ∈ l,48 ≤ z ∧ z ≤ 57
theorem Dg.nil:Dg []:=fun _ h => by simp at h
theorem Dg.app {a b:List Int} (ha:Dg a) (hb:Dg b):Dg (a ++ b):=fun z h => by
 rcases List.mem_append.1 h with h | h
 ·exact ha z h
 ·exact hb z h
theorem Dg.tail {a:Int} {b:List Int} (h:Dg (a :: b)):Dg b:=fun z hz => h z (List.mem_cons_of_mem _ hz)
theorem Dg.head {a:Int} {b:List Int} (h:Dg (a :: b)):digB a = true:=by
 have:=h a (by simp)
 simp [digB,this.1,this.2]
def dv (l:List Int):Nat:=l.foldl (fun v z => v * 10 + (z - 48).toNat) 0
theorem dv_from (l:List Int):∀ v:Nat,l.foldl (fun v z => v * 10 + (z - 48).toNat) v = v * 10 ^ l.length + dv l:=by
 induction l with
 | nil => intro v;simp [dv]
 | cons a l ih =>
  intro v
  show l.foldl _ (v * 10 + (a - 48).toNat) = _
  have e:dv (a :: l) = l.foldl (fun v z => v * 10 + (z - 48).toNat) (0 * 10 + (a - 48).toNat):=rfl
  rw [ih,e,ih,List.length_cons,Nat.pow_succ,Nat.zero_mul,Nat.zero_add,Nat.add_mul,Nat.mul_assoc v 10,Nat.mul_comm 10 (10 ^ _)]
  omega
theorem dv_app (a b:List Int):dv (a ++ b) = dv a * 10 ^ b.length + dv b:=by
 have e:dv (a ++ b) = b.foldl (fun v z => v * 10 + (z - 48).toNat) (dv a):=List.foldl_append
 rw [e,dv_from]
theorem dv_cons (a:Int) (b:List Int):dv (a :: b) = (a - 48).toNat * 10 ^ b.length + dv b:=by
 have:=dv_app [a] b
 rw [List.singleton_append] at this
 rw [this]
 simp [dv]
theorem dv_lt (l:List Int) (h:Dg l):dv l < 10 ^ l.length:=by
 induction l with
 | nil => decide
 | cons a l ih =>
  have h1:=ih h.tail
  have h2:=h a (by simp)
  rw [dv_cons,List.length_cons,Nat.pow_succ]
  have:(a - 48).toNat * 10 ^ l.length ≤ 9 * 10 ^ l.length:=Nat.mul_le_mul_right _ (by omega)
  omega
def trm (l:List Int):List Int:=l.dropWhile (fun z => z == 48)
theorem trm_dg {l:List Int} (h:Dg l):Dg (trm l):=fun z hz => h z ((List.dropWhile_suffix _).subset hz)
theorem trm_len (l:List Int):(trm l).length ≤ l.length:=(List.dropWhile_suffix _).length_le
theorem trm_head (l:List Int):∀ z r,trm l = z :: r → z ≠ 48:=by
 intro z r h e
 unfold trm at h
 have:=List.head?_dropWhile_not (fun z:Int => z == 48) l
 rw [h] at this
 simp [e] at this
def sgL (ng:Bool):List Int:=if ng then [45] else []
def frL (F:List Int):List Int:=if F = [] then [] else 46 :: F
end Go.Proofs.YtdogjghalplohaaGreatDoor.mem
namespace Go.Proofs.YtdogjghalplohaaGreatDoor.fto
open Go.ChangeShapes Go.WideShapes Go.ChangeAt Go.RowKit
open mem Go.Sort
open ints (hide unhide)
set_option linter.unusedVariables false
def dz (u:Nat):List Int:=(Lib.decDigits u).map fun b => (b.toNat:Int)
theorem dz_small {u:Nat} (h:u < 10):dz u = [((48 + u:Nat):Int)]:=by
 unfold dz
 rw [Lib.decDigits,dif_pos h]
 simp only [List.map_cons,List.map_nil]
 rw [UInt8.toNat_ofNat_of_lt' (by show _ < 256;omega)]
theorem dz_big {u:Nat} (h:¬ u < 10):dz u = dz (u / 10) ++ [((48 + u % 10:Nat):Int)]:=by
 unfold dz
 conv => lhs;rw [Lib.decDigits,dif_neg h]
 simp only [List.map_append,List.map_cons,List.map_nil]
 rw [UInt8.toNat_ofNat_of_lt' (by show _ < 256;omega)]
theorem dz_dg:∀ u,Dg (dz u):=by
 intro u
 induction u using Nat.strongRecOn with
 | ind u ih =>
  by_cases h:u < 10
  ·rw [dz_small h]
   intro z hz
   simp at hz
   omega
  ·rw [dz_big h]
   refine (ih (u / 10) (by omega)).app ?_
   intro z hz
   simp at hz
   omega
theorem dz_val:∀ u,dv (dz u) = u:=by
 intro u
 induction u using Nat.strongRecOn with
 | ind u ih =>
  by_cases h:u < 10
  ·rw [dz_small h,dv_cons]
   simp [dv]
   omega
  ·rw [dz_big h,dv_app,ih (u / 10) (by omega),dv_cons]
   simp [dv]
   omega
theorem dz_ne (u:Nat):dz u ≠ []:=by
 by_cases h:u < 10
 ·rw [dz_small h];simp
 ·rw [dz_big h];simp
theorem dz_len (u:Nat) (h:u < 10000):(dz u).length ≤ 4:=by
 by_cases h1:u < 10
 ·rw [dz_small h1];simp
 rw [dz_big h1]
 by_cases h2:u / 10 < 10
 ·rw [dz_small h2];simp
 rw [dz_big h2]
 by_cases h3:u / 10 / 10 < 10
 ·rw [dz_small h3];simp
 rw [dz_big h3,dz_small (show u / 10 / 10 / 10 < 10 by omega)];simp
def itZ (x:Int):List Int:=sgL (decide (x < 0)) ++ dz x.natAbs
theorem u8_dz (u:Nat):u8s (dz u) = Lib.decDigits u:=by
 unfold u8s dz
 rw [List.map_map]
 conv => rhs;rw [← List.map_id (Lib.decDigits u)]
 apply List.map_congr_left
 intro b _
 simp
theorem itB_itZ (x:Int):itB x = strOfNums (itZ x):=by
 unfold itB itZ
 rw [str_u8s,u8s_app,u8_dz]
 unfold Lib.itoa
 by_cases h:x < 0
 ·rw [if_pos h,decide_eq_true h]
  rfl
 ·rw [if_neg h,decide_eq_false h,show x.toNat = x.natAbs by omega]
  rfl
def Bt (l:List Int):Prop:=∀ z ∈ l,0 ≤ z ∧ z ≤ 255
theorem Bt.app {a b:List Int} (ha:Bt a) (hb:Bt b):Bt (a ++ b):=fun z h => by
 rcases List.mem_append.1 h with h | h
 ·exact ha z h
 ·exact hb z h
theorem Bt.cons {a:Int} {b:List Int} (ha:0 ≤ a ∧ a ≤ 255) (hb:Bt b):Bt (a :: b):=fun z h => by
 rcases List.mem_cons.1 h with h | h
 ·exact h ▸ ha
 ·exact hb z h
theorem _root_.Go.Proofs.YtdogjghalplohaaGreatDoor.mem.Dg.bt {l:List Int} (h:Dg l):Bt l:=fun z hz => by have:=h z hz;omega
theorem sg_bt (ng:Bool):Bt (sgL ng):=by cases ng <;> simp [sgL,Bt]
theorem itZ_bt (x:Int):Bt (itZ x):=(sg_bt _).app (dz_dg _).bt
theorem bz_str (zs:List Int) (h:Bt zs) (k:Nat):bz (strOfNums zs) k = zs.getD k 0:=by
 unfold bz
 have e:(strOfNums zs).data.toList.map (fun b => (b.toNat:Int)) = zs:=by
  show (List.map _ (zs.map fun n => UInt8.ofNat n.toNat).toArray.toList) = zs
  rw [List.toList_toArray,List.map_map]
  conv => rhs;rw [← List.map_id zs]
  apply List.map_congr_left
  intro z hz
  have:=h z hz
  simp
  omega
 rw [e]
theorem str_size (zs:List Int):(strOfNums zs).size = zs.length:=by
 show (zs.map fun n => UInt8.ofNat n.toNat).toArray.size = _
 simp
def ntZ (ng:Bool) (D:List Int) (x:Int):List Int:=sgL ng ++ 48 :: 46 :: (D ++ 101 :: itZ x)
theorem ntZ_bt (ng:Bool) (D:List Int) (x:Int) (hD:Dg D):Bt (ntZ ng D x):=
 (sg_bt ng).app (.cons (by omega) (.cons (by omega) (hD.bt.app (.cons (by omega) (itZ_bt x)))))
theorem getD_app (P R:List Int) (j:Nat):(P ++ R).getD (P.length + j) 0 = R.getD j 0:=by
 rw [List.getD_eq_getElem?_getD,List.getD_eq_getElem?_getD,List.getElem?_append_right (by omega),Nat.add_sub_cancel_left]
theorem dg_getD {l:List Int} (h:Dg l) {j:Nat} (hj:j < l.length):48 ≤ l.getD j 0 ∧ l.getD j 0 ≤ 57:=by
 refine h _ ?_
 rw [List.getD_eq_getElem?_getD,List.getElem?_eq_getElem hj]
 exact List.getElem_mem hj
theorem getD_left (P R:List Int) {j:Nat} (h:j < P.length):(P ++ R).getD j 0 = P.getD j 0:=by
 simp [List.getD,List.getElem?_append_left h]
theorem mvs_dv (zs:List Int) (hz:Bt zs) (P D R:List Int) (e:zs = P ++ (D ++ R)):∀ j,j ≤ D.length → mvs (strOfNums zs) P.length j = dv (D.take j):=by
 intro j
 induction j with
 | zero => intro _;simp [mvs,dv]
 | succ j ih =>
  intro hj
  rw [mvs,ih (by omega),bz_str zs hz,e,getD_app,getD_left _ _ (by omega)]
  have et:D.take (j + 1) = D.take j ++ [D.getD j 0]:=by
   rw [List.getD_eq_getElem?_getD,List.getElem?_eq_getElem (show j < D.length by omega),Option.getD_some,List.take_succ_eq_append_getElem (by omega)]
  rw [et,dv_app,dv_cons]
  simp [dv]
theorem ntx_of (ng:Bool) (D:List Int) (x:Int) (hD:Dg D) (hl:D.length ≤ 1100000) (h0:∀ r,D ≠ 48 :: r) (hx:x.natAbs < 10000) :
  Ntx (strOfNums (ntZ ng D x)) ng.toNat D.length (decide (x < 0)).toNat (dz x.natAbs).length:=by
 have hb:=ntZ_bt ng D x hD
 have hk:(sgL ng).length = ng.toNat:=by cases ng <;> rfl
 have hg:(sgL (decide (x < 0))).length = (decide (x < 0)).toNat:=by cases decide (x < 0) <;> rfl
 have hzp:0 < (dz x.natAbs).length:=List.length_pos_iff.2 (dz_ne _)
 obtain ⟨P2,hP2⟩:∃ P,P = sgL ng ++ [48,46]:=⟨_,rfl⟩
 have l2:P2.length = ng.toNat + 2:=by rw [hP2,List.length_append,hk];rfl
 have e2:ntZ ng D x = P2 ++ (D ++ 101 :: itZ x):=by rw [hP2];simp [ntZ]
 obtain ⟨P3,hP3⟩:∃ P,P = P2 ++ D:=⟨_,rfl⟩
 have l3:P3.length = ng.toNat + 2 + D.length:=by rw [hP3,List.length_append,l2]
 have e3:ntZ ng D x = P3 ++ 101 :: itZ x:=by rw [e2,hP3];simp
 obtain ⟨P4,hP4⟩:∃ P,P = P3 ++ [101]:=⟨_,rfl⟩
 have l4:P4.length = ng.toNat + 3 + D.length:=by rw [hP4,List.length_append,l3];simp;omega
 have e4:ntZ ng D x = P4 ++ (sgL (decide (x < 0)) ++ dz x.natAbs):=by rw [e3,hP4];simp [itZ]
 obtain ⟨P5,hP5⟩:∃ P,P = P4 ++ sgL (decide (x < 0)):=⟨_,rfl⟩
 have l5:P5.length = ng.toNat + 3 + D.length + (decide (x < 0)).toNat:=by rw [hP5,List.length_append,l4,hg]
 have e5:ntZ ng D x = P5 ++ dz x.natAbs:=by rw [e4,hP5];simp
 refine ⟨hl,hzp,dz_len _ hx,Bool.toNat_le _,?_,?_,?_,?_,?_,?_,?_,?_,?_⟩
 ·rw [str_size,e5,List.length_append,l5];omega
 ·intro h
  rw [bz_str _ hb]
  cases ng
  ·simp at h
  ·simp [ntZ,sgL]
 ·rw [bz_str _ hb,← hk]
  have:=getD_app (sgL ng) (48 :: 46 :: (D ++ 101 :: itZ x)) 0
  rw [Nat.add_zero] at this
  unfold ntZ
  rw [this];rfl
 ·rw [bz_str _ hb,← hk]
  have:=getD_app (sgL ng) (48 :: 46 :: (D ++ 101 :: itZ x)) 1
  unfold ntZ
  rw [this];rfl
 ·intro j hj
  rw [bz_str _ hb,e2,← l2,getD_app,getD_left _ _ hj]
  exact dg_getD hD hj
 ·intro hm
  rw [bz_str _ hb,e2,← l2]
  have:=getD_app P2 (D ++ 101 :: itZ x) 0
  rw [Nat.add_zero] at this
  rw [this]
  cases D with
  | nil => simp at hm
  | cons a r =>
   intro h
   simp at h
   exact h0 r (by rw [h])
 ·rw [bz_str _ hb,e3,← l3]
  have:=getD_app P3 (101 :: itZ x) 0
  rw [Nat.add_zero] at this
  rw [this];rfl
 ·intro h
  rw [bz_str _ hb,e4,← l4]
  have:=getD_app P4 (sgL (decide (x < 0)) ++ dz x.natAbs) 0
  rw [Nat.add_zero] at this
  rw [this]
  cases hd:decide (x < 0)
  ·rw [hd] at h;simp at h
  ·simp [sgL]
 ·intro j hj
  rw [bz_str _ hb,e5,← l5,getD_app]
  exact dg_getD (dz_dg _) hj
theorem ntx_mant (ng:Bool) (D:List Int) (x:Int) (hD:Dg D) (j:Nat) (hj:j ≤ D.length):mvs (strOfNums (ntZ ng D x)) (ng.toNat + 2) j = dv (D.take j):=by
 have hk:(sgL ng).length = ng.toNat:=by cases ng <;> rfl
 have:=mvs_dv (ntZ ng D x) (ntZ_bt ng D x hD) (sgL ng ++ [48,46]) D (101 :: itZ x) (by simp [ntZ]) j hj
 rw [List.length_append,hk] at this
 exact this
theorem ntx_exp (ng:Bool) (D:List Int) (x:Int) (hD:Dg D):mvs (strOfNums (ntZ ng D x)) (ng.toNat + 3 + D.length + (decide (x < 0)).toNat) (dz x.natAbs).length = x.natAbs:=by
 have hk:(sgL ng).length = ng.toNat:=by cases ng <;> rfl
 have hg:(sgL (decide (x < 0))).length = (decide (x < 0)).toNat:=by cases decide (x < 0) <;> rfl
 have:=mvs_dv (ntZ ng D x) (ntZ_bt ng D x hD) (sgL ng ++ 48 :: 46 :: (D ++ 101 :: sgL (decide (x < 0)))) (dz x.natAbs) [] (by simp [ntZ,itZ]) (dz x.natAbs).length (Nat.le_refl _)
 rw [List.take_length,dz_val] at this
 refine Eq.trans ?_ this
 congr 1
 simp [hk,hg]
 omega
end Go.Proofs.YtdogjghalplohaaGreatDoor.fto
namespace Go.Proofs
open Go.Shelf
def Tryz.lays153_ren:Go.Shelf.Ren:=⟨fun | 153 => 100 | 152 => 125 | 226 => 126 | 227 => 103 | 228 => 127 | 137 => 147 | 119 => 148 | 224 => 149 | 225 => 150 | 217 => 151 | 266 => 172 | n => n,fun | 9 => 9 | 3 => 3 | 4 => 4 | 5 => 5 | 21 => 21 | 117 => 150 | 116 => 149 | 0 => 0 | 46 => 138 | 124 => 153 | n => n,fun | n => n⟩
theorem Tryz.lays153:Go.Proofs.Lays.n153 Tryz.prog Tryz.lays153_ren:={
  mixed:=by kernel_rfl
  f119:=Tryz.func148.trans (congrArg some (by kernel_rfl))
  f137:=Tryz.func147.trans (congrArg some (by kernel_rfl))
  f152:=Tryz.func125.trans (congrArg some (by kernel_rfl))
  f153:=Tryz.func100.trans (congrArg some (by kernel_rfl))
  f217:=Tryz.func151.trans (congrArg some (by kernel_rfl))
  f224:=Tryz.func149.trans (congrArg some (by kernel_rfl))
  f225:=Tryz.func150.trans (congrArg some (by kernel_rfl))
  f226:=Tryz.func126.trans (congrArg some (by kernel_rfl))
  f227:=Tryz.func103.trans (congrArg some (by kernel_rfl))
  f228:=Tryz.func127.trans (congrArg some (by kernel_rfl))
  f266:=Tryz.func172.trans (congrArg some (by kernel_rfl))
  t0:=Tryz.underlying0
  a0:=Tryz.isAgg0
  z0:=Tryz.sizeOf0
  v0:=Tryz.zeroValue0
  t3:=Tryz.underlying3
  a3:=Tryz.isAgg3
  z3:=Tryz.sizeOf3
  v3:=Tryz.zeroValue3
  t4:=Tryz.underlying4
  a4:=Tryz.isAgg4
  z4:=Tryz.sizeOf4
  v4:=Tryz.zeroValue4
  t5:=Tryz.underlying5
  a5:=Tryz.isAgg5
  z5:=Tryz.sizeOf5
  v5:=Tryz.zeroValue5
  t9:=Tryz.underlying9
  a9:=Tryz.isAgg9
  z9:=Tryz.sizeOf9
  v9:=Tryz.zeroValue9
  t21:=Tryz.underlying21
  a21:=Tryz.isAgg21
  z21:=Tryz.sizeOf21
  v21:=Tryz.zeroValue21
  t46:=Tryz.underlying138
  a46:=Tryz.isAgg138
  z46:=Tryz.sizeOf138
  v46:=Tryz.zeroValue138
  t116:=Tryz.underlying149
  a116:=Tryz.isAgg149
  z116:=Tryz.sizeOf149
  t117:=Tryz.underlying150
  a117:=Tryz.isAgg150
  z117:=Tryz.sizeOf150
  v117:=Tryz.zeroValue150
  t124:=Tryz.underlying153
  a124:=Tryz.isAgg153
  z124:=Tryz.sizeOf153
  v124:=Tryz.zeroValue153 }
open Go.RowKit Go.Lib in
theorem Tryz.strings_IndexAny_laid (s chars:ByteArray) (w:World) (hs:s.size < 4294967281) (hcs:chars.size < 4294967281) (has:∀ (j:Nat) b,s.data.toList[j]? = some b → b.toNat < 128) (hac:∀ (j:Nat) b,chars.data.toList[j]? = some b → b.toNat < 128) :
    Calls Tryz.prog 100 #[.string s,.string chars] w fun e w' => e = .returned (.int .i64 (Lib.indexAny s.data.toList chars.data.toList)) ∧ Below w.heap.size w w':=Any.strings_IndexAny_laid Tryz.lays153 (by kernel_rfl) s chars w hs hcs has hac
def Tryz.lays99_ren:Go.Shelf.Ren:=⟨fun | 99 => 71 | 206 => 99 | n => n,fun | 9 => 9 | 4 => 4 | 3 => 3 | n => n,fun | n => n⟩
theorem Tryz.lays99:Go.Proofs.Lays.n99 Tryz.prog Tryz.lays99_ren:={
  mixed:=by kernel_rfl
  f99:=Tryz.func71.trans (congrArg some (by kernel_rfl))
  f206:=Tryz.func99.trans (congrArg some (by kernel_rfl))
  t3:=Tryz.underlying3
  a3:=Tryz.isAgg3
  z3:=Tryz.sizeOf3
  v3:=Tryz.zeroValue3
  t4:=Tryz.underlying4
  a4:=Tryz.isAgg4
  z4:=Tryz.sizeOf4
  v4:=Tryz.zeroValue4
  t9:=Tryz.underlying9
  a9:=Tryz.isAgg9
  z9:=Tryz.sizeOf9
  v9:=Tryz.zeroValue9 }
open Go.RowKit Go.Lib in
theorem Tryz.strings_HasPrefix (s p:ByteArray) (w:World) :
    Calls Tryz.prog 71 #[.string s,.string p] w fun e w' => e = .returned (.bool (Lib.hasPrefix s.data.toList p.data.toList)) ∧ w' = w:=Any.strings_HasPrefix Tryz.lays99 s p w
def Tryz.laysC174_ren:Go.Shelf.Ren:=⟨fun | 174 => 33 | 247 => 69 | 245 => 70 | 287 => 94 | 279 => 95 | 280 => 96 | 281 => 97 | 282 => 98 | 321 => 120 | 322 => 121 | 316 => 122 | 171 => 124 | 205 => 123 | 243 => 146 | 246 => 115 | 283 => 137 | 284 => 138 | 285 => 139 | 286 => 140 | 129 => 161 | 317 => 160 | 318 => 162 | 319 => 163 | 320 => 164 | 337 => 190 | 338 => 191 | n => n,fun | 9 => 9 | 3 => 3 | 2 => 2 | 75 => 70 | 85 => 77 | 4 => 4 | 167 => 141 | 5 => 5 | 53 => 82 | 175 => 142 | 46 => 138 | 168 => 144 | 37 => 22 | 0 => 0 | 210 => 165 | 21 => 21 | 127 => 110 | 145 => 185 | 143 => 183 | 171 => 176 | 173 => 179 | 212 => 200 | 51 => 175 | 20 => 20 | 213 => 201 | 232 => 260 | 233 => 261 | 80 => 73 | n => n,fun | 15 => 2 | 16 => 3 | 17 => 4 | 18 => 13 | 19 => 14 | n => n⟩
theorem Tryz.laysC174:Go.Proofs.LaysC.n174 Tryz.prog Tryz.laysC174_ren:={
  mixed:=by kernel_rfl
  f129:=Tryz.func161.trans (congrArg some (by kernel_rfl))
  f171:=Tryz.func124.trans (congrArg some (by kernel_rfl))
  f174:=Tryz.func33.trans (congrArg some (by kernel_rfl))
  f205:=Tryz.func123.trans (congrArg some (by kernel_rfl))
  f243:=Tryz.func146.trans (congrArg some (by kernel_rfl))
  f245:=Tryz.func70.trans (congrArg some (by kernel_rfl))
  f246:=Tryz.func115.trans (congrArg some (by kernel_rfl))
  f247:=Tryz.func69.trans (congrArg some (by kernel_rfl))
  f279:=Tryz.func95.trans (congrArg some (by kernel_rfl))
  f280:=Tryz.func96.trans (congrArg some (by kernel_rfl))
  f281:=Tryz.func97.trans (congrArg some (by kernel_rfl))
  f282:=Tryz.func98.trans (congrArg some (by kernel_rfl))
  f283:=Tryz.func137.trans (congrArg some (by kernel_rfl))
  f284:=Tryz.func138.trans (congrArg some (by kernel_rfl))
  f285:=Tryz.func139.trans (congrArg some (by kernel_rfl))
  f286:=Tryz.func140.trans (congrArg some (by kernel_rfl))
  f287:=Tryz.func94.trans (congrArg some (by kernel_rfl))
  f316:=Tryz.func122.trans (congrArg some (by kernel_rfl))
  f317:=Tryz.func160.trans (congrArg some (by kernel_rfl))
  f318:=Tryz.func162.trans (congrArg some (by kernel_rfl))
  f319:=Tryz.func163.trans (congrArg some (by kernel_rfl))
  f320:=Tryz.func164.trans (congrArg some (by kernel_rfl))
  f321:=Tryz.func120.trans (congrArg some (by kernel_rfl))
  f322:=Tryz.func121.trans (congrArg some (by kernel_rfl))
  f337:=Tryz.func190.trans (congrArg some (by kernel_rfl))
  f338:=Tryz.func191.trans (congrArg some (by kernel_rfl))
  t0:=Tryz.underlying0
  a0:=Tryz.isAgg0
  z0:=Tryz.sizeOf0
  v0:=Tryz.zeroValue0
  t2:=Tryz.underlying2
  a2:=Tryz.isAgg2
  z2:=Tryz.sizeOf2
  v2:=Tryz.zeroValue2
  t3:=Tryz.underlying3
  a3:=Tryz.isAgg3
  z3:=Tryz.sizeOf3
  v3:=Tryz.zeroValue3
  t4:=Tryz.underlying4
  a4:=Tryz.isAgg4
  z4:=Tryz.sizeOf4
  v4:=Tryz.zeroValue4
  t5:=Tryz.underlying5
  a5:=Tryz.isAgg5
  z5:=Tryz.sizeOf5
  v5:=Tryz.zeroValue5
  t9:=Tryz.underlying9
  a9:=Tryz.isAgg9
  z9:=Tryz.sizeOf9
  v9:=Tryz.zeroValue9
  t20:=Tryz.underlying20
  a20:=Tryz.isAgg20
  z20:=Tryz.sizeOf20
  v20:=Tryz.zeroValue20
  t21:=Tryz.underlying21
  a21:=Tryz.isAgg21
  z21:=Tryz.sizeOf21
  v21:=Tryz.zeroValue21
  t37:=Tryz.underlying22
  a37:=Tryz.isAgg22
  z37:=Tryz.sizeOf22
  v37:=Tryz.zeroValue22
  t46:=Tryz.underlying138
  a46:=Tryz.isAgg138
  z46:=Tryz.sizeOf138
  v46:=Tryz.zeroValue138
  t51:=Tryz.underlying175
  a51:=Tryz.isAgg175
  z51:=Tryz.sizeOf175
  v51:=Tryz.zeroValue175
  t53:=Tryz.underlying82
  a53:=Tryz.isAgg82
  z53:=Tryz.sizeOf82
  v53:=Tryz.zeroValue82
  t75:=Tryz.underlying70
  a75:=Tryz.isAgg70
  z75:=Tryz.sizeOf70
  v75:=Tryz.zeroValue70
  t85:=Tryz.underlying77
  a85:=Tryz.isAgg77
  z85:=Tryz.sizeOf77
  v85:=Tryz.zeroValue77
  t127:=Tryz.underlying110
  a127:=Tryz.isAgg110
  z127:=Tryz.sizeOf110
  v127:=Tryz.zeroValue110
  t143:=Tryz.underlying183
  a143:=Tryz.isAgg183
  z143:=Tryz.sizeOf183
  v143:=Tryz.zeroValue183
  t145:=Tryz.underlying185
  a145:=Tryz.isAgg185
  z145:=Tryz.sizeOf185
  v145:=Tryz.zeroValue185
  t167:=Tryz.underlying141
  a167:=Tryz.isAgg141
  z167:=Tryz.sizeOf141
  v167:=Tryz.zeroValue141
  t168:=Tryz.underlying144
  a168:=Tryz.isAgg144
  z168:=Tryz.sizeOf144
  v168:=Tryz.zeroValue144
  t171:=Tryz.underlying176
  a171:=Tryz.isAgg176
  z171:=Tryz.sizeOf176
  v171:=Tryz.zeroValue176
  t173:=Tryz.underlying179
  a173:=Tryz.isAgg179
  z173:=Tryz.sizeOf179
  v173:=Tryz.zeroValue179
  t175:=Tryz.underlying142
  a175:=Tryz.isAgg142
  z175:=Tryz.sizeOf142
  v175:=Tryz.zeroValue142
  t210:=Tryz.underlying165
  a210:=Tryz.isAgg165
  z210:=Tryz.sizeOf165
  v210:=Tryz.zeroValue165
  t212:=Tryz.underlying200
  a212:=Tryz.isAgg200
  z212:=Tryz.sizeOf200
  v212:=Tryz.zeroValue200
  t213:=Tryz.underlying201
  a213:=Tryz.isAgg201
  z213:=Tryz.sizeOf201
  t232:=Tryz.underlying260
  a232:=Tryz.isAgg260
  z232:=Tryz.sizeOf260
  v232:=Tryz.zeroValue260
  t233:=Tryz.underlying261
  a233:=Tryz.isAgg261
  z233:=Tryz.sizeOf261
  v233:=Tryz.zeroValue261
  g15:=by kernel_rfl
  g16:=by kernel_rfl
  g17:=by kernel_rfl
  g18:=by kernel_rfl
  g19:=by kernel_rfl
  t80:=Tryz.underlying73
  a80:=Tryz.isAgg73
  z80:=Tryz.sizeOf73
  v80:=Tryz.zeroValue73
  i0:=by kernel_rfl
  i2:=by kernel_rfl
  i3:=by kernel_rfl
  i4:=by kernel_rfl
  i5:=by kernel_rfl
  i9:=by kernel_rfl
  i20:=by kernel_rfl
  i21:=by kernel_rfl
  i37:=by kernel_rfl
  i46:=by kernel_rfl
  i51:=by kernel_rfl
  i53:=by kernel_rfl
  i75:=by kernel_rfl
  i80:=by kernel_rfl
  i85:=by kernel_rfl
  i127:=by kernel_rfl
  i143:=by kernel_rfl
  i145:=by kernel_rfl
  i167:=by kernel_rfl
  i168:=by kernel_rfl
  i171:=by kernel_rfl
  i173:=by kernel_rfl
  i175:=by kernel_rfl
  i210:=by kernel_rfl
  i212:=by kernel_rfl
  i232:=by kernel_rfl
  i233:=by kernel_rfl
  m15:=by kernel_rfl
  m16:=by kernel_rfl
  m17:=by kernel_rfl
  m18:=by kernel_rfl
  m19:=by kernel_rfl
  c0:=by kernel_rfl
  c2:=by kernel_rfl
  c3:=by kernel_rfl
  c4:=by kernel_rfl
  c5:=by kernel_rfl
  c9:=by kernel_rfl
  c20:=by kernel_rfl
  c21:=by kernel_rfl
  c37:=by kernel_rfl
  c46:=by kernel_rfl
  c51:=by kernel_rfl
  c53:=by kernel_rfl
  c75:=by kernel_rfl
  c80:=by kernel_rfl
  c85:=by kernel_rfl
  c127:=by kernel_rfl
  c143:=by kernel_rfl
  c145:=by kernel_rfl
  c167:=by kernel_rfl
  c168:=by kernel_rfl
  c171:=by kernel_rfl
  c173:=by kernel_rfl
  c175:=by kernel_rfl
  c210:=by kernel_rfl
  c212:=by kernel_rfl
  c213:=by kernel_rfl
  c232:=by kernel_rfl
  c233:=by kernel_rfl }
open Go.RowKit in
theorem Tryz.strconv_ParseInt_10_at64_ok (s:ByteArray) (hmax:s.size ≤ 9223372036854775806) (v:Int) (h:Lib.parseIntB 64 s.data.toList = .ok v) (w:World) :
    Calls Tryz.prog 33 #[.string s,.int .i64 10,.int .i64 64] w fun e w' => e = .returned (.tuple #[.int .i64 v,.nilIface]) ∧ (w' = w ∨ ∃ t,w' = Lib.bytesWorld w 5 t):=Any.strconv_ParseInt_10_at64_ok Tryz.laysC174 s hmax v h w
end Go.Proofs
namespace Go.Proofs
open Go.Shelf
def Tryz.lays161_ren:Go.Shelf.Ren:=⟨fun | 161 => 74 | 231 => 102 | 227 => 103 | 233 => 104 | 235 => 105 | 228 => 127 | 197 => 129 | 151 => 130 | 260 => 153 | 152 => 125 | 137 => 147 | 119 => 148 | 224 => 149 | 225 => 150 | 217 => 151 | 266 => 172 | n => n,fun | 9 => 9 | 4 => 4 | 3 => 3 | 5 => 5 | 117 => 150 | 116 => 149 | 0 => 0 | 124 => 153 | 105 => 170 | 21 => 21 | 119 => 209 | 46 => 138 | 139 => 212 | 138 => 211 | n => n,fun | 3 => 5 | 4 => 6 | n => n⟩
theorem Tryz.lays161:Go.Proofs.Lays.n161 Tryz.prog Tryz.lays161_ren:={
  mixed:=by kernel_rfl
  f119:=Tryz.func148.trans (congrArg some (by kernel_rfl))
  f137:=Tryz.func147.trans (congrArg some (by kernel_rfl))
  f151:=Tryz.func130.trans (congrArg some (by kernel_rfl))
  f152:=Tryz.func125.trans (congrArg some (by kernel_rfl))
  f161:=Tryz.func74.trans (congrArg some (by kernel_rfl))
  f197:=Tryz.func129.trans (congrArg some (by kernel_rfl))
  f217:=Tryz.func151.trans (congrArg some (by kernel_rfl))
  f224:=Tryz.func149.trans (congrArg some (by kernel_rfl))
  f225:=Tryz.func150.trans (congrArg some (by kernel_rfl))
  f227:=Tryz.func103.trans (congrArg some (by kernel_rfl))
  f228:=Tryz.func127.trans (congrArg some (by kernel_rfl))
  f231:=Tryz.func102.trans (congrArg some (by kernel_rfl))
  f233:=Tryz.func104.trans (congrArg some (by kernel_rfl))
  f235:=Tryz.func105.trans (congrArg some (by kernel_rfl))
  f260:=Tryz.func153.trans (congrArg some (by kernel_rfl))
  f266:=Tryz.func172.trans (congrArg some (by kernel_rfl))
  t0:=Tryz.underlying0
  a0:=Tryz.isAgg0
  z0:=Tryz.sizeOf0
  v0:=Tryz.zeroValue0
  t3:=Tryz.underlying3
  a3:=Tryz.isAgg3
  z3:=Tryz.sizeOf3
  v3:=Tryz.zeroValue3
  t4:=Tryz.underlying4
  a4:=Tryz.isAgg4
  z4:=Tryz.sizeOf4
  v4:=Tryz.zeroValue4
  t5:=Tryz.underlying5
  a5:=Tryz.isAgg5
  z5:=Tryz.sizeOf5
  v5:=Tryz.zeroValue5
  t9:=Tryz.underlying9
  a9:=Tryz.isAgg9
  z9:=Tryz.sizeOf9
  v9:=Tryz.zeroValue9
  t21:=Tryz.underlying21
  a21:=Tryz.isAgg21
  z21:=Tryz.sizeOf21
  v21:=Tryz.zeroValue21
  t46:=Tryz.underlying138
  a46:=Tryz.isAgg138
  z46:=Tryz.sizeOf138
  v46:=Tryz.zeroValue138
  t105:=Tryz.underlying170
  a105:=Tryz.isAgg170
  z105:=Tryz.sizeOf170
  v105:=Tryz.zeroValue170
  t116:=Tryz.underlying149
  a116:=Tryz.isAgg149
  z116:=Tryz.sizeOf149
  t117:=Tryz.underlying150
  a117:=Tryz.isAgg150
  z117:=Tryz.sizeOf150
  v117:=Tryz.zeroValue150
  t119:=Tryz.underlying209
  a119:=Tryz.isAgg209
  z119:=Tryz.sizeOf209
  t124:=Tryz.underlying153
  a124:=Tryz.isAgg153
  z124:=Tryz.sizeOf153
  v124:=Tryz.zeroValue153
  t138:=Tryz.underlying211
  a138:=Tryz.isAgg211
  z138:=Tryz.sizeOf211
  v138:=Tryz.zeroValue211
  t139:=Tryz.underlying212
  a139:=Tryz.isAgg212
  z139:=Tryz.sizeOf212
  v139:=Tryz.zeroValue212
  g3:=by kernel_rfl
  g4:=by kernel_rfl }
open Go.RowKit in
theorem Tryz.strings_TrimLeft_one (s:ByteArray) (c:UInt8) (hc:c.toNat < 128) (w:World) :
    Calls Tryz.prog 74 #[.string s,.string ⟨#[c]⟩] w fun e w' => e = .returned (.string ⟨(Lib.trimLeftB s.data.toList c).toArray⟩) ∧ w' = w:=Any.strings_TrimLeft_one Tryz.lays161 s c hc w
open Go.RowKit Go.Lib in
theorem Tryz.strings_TrimLeft_laid (s cutset:ByteArray) (w:World) (hcs:cutset.size < 4294967281) (hascii:∀ (j:Nat) b,cutset.data.toList[j]? = some b → b.toNat < 128) :
    Calls Tryz.prog 74 #[.string s,.string cutset] w fun e w' => e = .returned (.string ⟨(Lib.trimLeftS s.data.toList cutset.data.toList).toArray⟩) ∧ Below w.heap.size w w':=Any.strings_TrimLeft_laid Tryz.lays161 (by kernel_rfl) s cutset w hcs hascii
end Go.Proofs
namespace Go.Proofs.YtdogjghalplohaaGreatDoor.fto
open Go.ChangeShapes Go.WideShapes Go.ChangeAt Go.RowKit
open mem Go.Sort
open ints (hide unhide)
set_option linter.unusedVariables false
theorem u8s_mem {c:UInt8} {l:List Int} (hl:Bt l) (h:c ∈ u8s l):(c.toNat:Int) ∈ l:=by
 obtain ⟨z,hz,e⟩:=List.mem_map.1 h
 have:=hl z hz
 have e2:(UInt8.ofNat z.toNat).toNat = z.toNat:=UInt8.toNat_ofNat_of_lt' (by show _ < 256;omega)
 rw [← e,e2]
 rw [show ((z.toNat:Nat):Int) = z by omega]
 exact hz
theorem ia_no:∀ l:List UInt8,(101:UInt8) ∉ l → (69:UInt8) ∉ l → Lib.indexAny l [101,69] = -1
 | [],_,_ => rfl
 | b :: l,h1,h2 => by
  have b1:¬ (101:UInt8) = b:=fun e => h1 (by simp [e])
  have b2:¬ (69:UInt8) = b:=fun e => h2 (by simp [e])
  have ih:=ia_no l (fun e => h1 (List.mem_cons_of_mem _ e)) (fun e => h2 (List.mem_cons_of_mem _ e))
  unfold Lib.indexAny
  rw [if_neg,ih]
  ·simp
  ·simp
   exact ⟨fun e => b1 e.symm,fun e => b2 e.symm⟩
def NoE (l:List Int):Prop:=Bt l ∧ (101:Int) ∉ l ∧ (69:Int) ∉ l
theorem NoE.u8 {l:List Int} (h:NoE l):(101:UInt8) ∉ u8s l ∧ (69:UInt8) ∉ u8s l:=
 ⟨fun e => h.2.1 (by simpa using u8s_mem h.1 e),fun e => h.2.2 (by simpa using u8s_mem h.1 e)⟩
theorem ascii_u8s {l:List Int} (h:∀ z ∈ l,0 ≤ z ∧ z < 128):∀ (j:Nat) b,(u8s l)[j]? = some b → b.toNat < 128:=by
 intro j b hb
 have hm:=List.mem_of_getElem? hb
 obtain ⟨z,hz,e⟩:=List.mem_map.1 hm
 have:=h z hz
 have e2:(UInt8.ofNat z.toNat).toNat = z.toNat:=UInt8.toNat_ofNat_of_lt' (by show _ < 256;omega)
 rw [← e,e2]
 omega
theorem ext_left (A B:List Int):(strOfNums (A ++ B)).extract 0 A.length = strOfNums A:=by
 apply ByteArray.ext
 rw [ByteArray.data_extract]
 show ((u8s (A ++ B)).toArray.extract 0 A.length) = (u8s A).toArray
 rw [u8s_app]
 have:A.length = (u8s A).length:=by simp [u8s]
 rw [this]
 simp
theorem ext_right (A B:List Int) {k n:Nat} (hk:k = A.length) (hn:n = (A ++ B).length):(strOfNums (A ++ B)).extract k n = strOfNums B:=by
 apply ByteArray.ext
 rw [ByteArray.data_extract]
 show ((u8s (A ++ B)).toArray.extract k n) = (u8s B).toArray
 have h1:(u8s A).length = A.length:=by simp [u8s]
 have h2:(u8s (A ++ B)).length = n:=by rw [hn];simp [u8s]
 rw [u8s_app] at *
 rw [List.extract_toArray,← h2,hk,← h1]
 simp [List.extract]
theorem cutE_no (M:List Int) (w:World) (hM:NoE M) (ha:∀ z ∈ M,0 ≤ z ∧ z < 128) (hl:M.length ≤ 1100000) :
  Calls Tryz.prog 72 #[.string (strOfNums M)] w fun e w' => e = .returned (.tuple #[.string (strOfNums M),.int .i64 0]) ∧ Below w.heap.size w w':=by
 have IA:=Tryz.strings_IndexAny_laid (strOfNums M) ⟨#[101,69]⟩ w (by rw [str_size];omega) (by decide) (ascii_u8s ha) (ascii_of_all (by decide))
 have e:Lib.indexAny (strOfNums M).data.toList (⟨#[101,69]⟩:ByteArray).data.toList = -1:=ia_no (u8s M) hM.u8.1 hM.u8.2
 rw [e] at IA
 have HI:=hide IA
 clear IA e
 go_enter Tryz.func72,Tryz.ntmps72
 go_wp2_with fail
 refine (unhide HI).mono ?_
 rintro e w1 ⟨rfl,b1⟩
 have HB:=hide b1
 clear b1
 go_wp2
 go_ret2
 exact ⟨rfl,unhide HB⟩
theorem trimS_sg (g:Bool) (X:List Int) (hX:Dg X):Lib.trimLeftS (u8s (sgL g ++ X)) [43,45] = u8s X:=by
 have hh:∀ X:List Int,Dg X → (u8s X).dropWhile (fun b => [(43:UInt8),45].contains b) = u8s X:=by
  intro X hX
  cases X with
  | nil => rfl
  | cons x X =>
   have:=hX x (by simp)
   have e2:(UInt8.ofNat x.toNat).toNat = x.toNat:=UInt8.toNat_ofNat_of_lt' (by show _ < 256;omega)
   have n1:¬ UInt8.ofNat x.toNat = 43:=fun e => by rw [e] at e2;have:(43:UInt8).toNat = 43:=rfl;omega
   have n2:¬ UInt8.ofNat x.toNat = 45:=fun e => by rw [e] at e2;have:(45:UInt8).toNat = 45:=rfl;omega
   show List.dropWhile _ (UInt8.ofNat x.toNat :: u8s X) = UInt8.ofNat x.toNat :: u8s X
   rw [List.dropWhile_cons,if_neg]
   simp [n1,n2]
 unfold Lib.trimLeftS
 rw [u8s_app]
 cases g
 ·exact hh X hX
 ·show List.dropWhile _ ((45:UInt8) :: u8s X) = _
  rw [List.dropWhile_cons,if_pos (by decide)]
  exact hh X hX
end Go.Proofs.YtdogjghalplohaaGreatDoor.fto
namespace Go.Proofs.YtdogjghalplohaaGreatDoor.mem
set_option linter.unusedVariables false
def sv (ng:Bool) (v:Nat):Int:=if ng then -(v:Int) else (v:Int)
theorem dec_fin (ng:Bool) (r:Nat) (h:r < 9218868437227405312):FloatKind.f64.decode (Ieee.double.word ng r) = .number ng (mantR r) ((exR r:Int) - 1074):=by
 have hs:Ieee.double.signWeight = 9223372036854775808:=by rfl
 have hb:Ieee.double.binade = b52:=by rfl
 have hi:Ieee.double.infRung = 9218868437227405312:=by rfl
 have hl:Ieee.double.leastPlace = -1074:=by rfl
 have e1:Ieee.double.word ng r / 9223372036854775808 % 2 = ng.toNat ∧ Ieee.double.word ng r % 9223372036854775808 = r:=by
  unfold Ieee.Format.word
  rw [hs]
  cases ng
  ·simp;omega
  ·simp;omega
 show Ieee.double.read _ = _
 unfold Ieee.Format.read
 simp only [hs,hb,hi,hl,e1.1,e1.2]
 have e2:(ng.toNat == 1) = ng:=by cases ng <;> rfl
 rw [e2]
 unfold mantR exR
 by_cases h0:r < b52
 ·rw [if_pos h0,if_pos h0]
  have:r / b52 = 0:=Nat.div_eq_of_lt h0
  rw [this];rfl
 ·rw [if_neg h0,if_neg h0,if_pos h]
  have:1 ≤ r / b52:=Nat.div_pos (by omega) (by decide)
  congr 1
theorem dec_inf (ng:Bool):FloatKind.f64.decode (Ieee.double.word ng 9218868437227405312) = .infinity ng:=by
 have hs:Ieee.double.signWeight = 9223372036854775808:=by rfl
 have hb:Ieee.double.binade = b52:=by rfl
 have hi:Ieee.double.infRung = 9218868437227405312:=by rfl
 have e1:Ieee.double.word ng 9218868437227405312 / 9223372036854775808 % 2 = ng.toNat ∧ Ieee.double.word ng 9218868437227405312 % 9223372036854775808 = 9218868437227405312:=by
  unfold Ieee.Format.word
  rw [hs]
  cases ng <;> simp
 show Ieee.double.read _ = _
 unfold Ieee.Format.read
 simp only [hs,hb,hi,e1.1,e1.2]
 have e2:(ng.toNat == 1) = ng:=by cases ng <;> rfl
 rw [e2,if_neg (by unfold b52;omega),if_neg (by omega)]
 simp only [if_true]
theorem dec_nan (ng:Bool) (r:Nat) (h:9218868437227405312 < r) (h2:r < 9223372036854775808):∃ f,FloatKind.f64.decode (Ieee.double.word ng r) = .nan ng f:=by
 have hs:Ieee.double.signWeight = 9223372036854775808:=by rfl
 have hb:Ieee.double.binade = b52:=by rfl
 have hi:Ieee.double.infRung = 9218868437227405312:=by rfl
 have e1:Ieee.double.word ng r / 9223372036854775808 % 2 = ng.toNat ∧ Ieee.double.word ng r % 9223372036854775808 = r:=by
  unfold Ieee.Format.word
  rw [hs]
  cases ng
  ·simp;omega
  ·simp;omega
 refine ⟨r - 9218868437227405312,?_⟩
 show Ieee.double.read _ = _
 unfold Ieee.Format.read
 simp only [hs,hb,hi,e1.1,e1.2]
 have e2:(ng.toNat == 1) = ng:=by cases ng <;> rfl
 rw [e2,if_neg (by unfold b52;omega),if_neg (by omega),if_neg (by omega)]
theorem word_of (x:Nat) (h:x < 18446744073709551616):Ieee.double.word (decide (9223372036854775808 ≤ x)) (x % 9223372036854775808) = x:=by
 have hs:Ieee.double.signWeight = 9223372036854775808:=by rfl
 unfold Ieee.Format.word
 rw [hs]
 by_cases hx:9223372036854775808 ≤ x
 ·simp [hx];omega
 ·simp [hx];omega
theorem signed_eq (ng:Bool) (m u:Nat):Ieee.signed ng m u = sv ng (m * 2 ^ u):=by
 unfold Ieee.signed sv
 rw [Nat.shiftLeft_eq]
theorem sv_mul (ng:Bool) (v k:Nat):sv ng (v * k) = sv ng v * (k:Int):=by
 unfold sv
 cases ng
 ·simp
 ·simp only [if_true];rw [Int.natCast_mul,Int.neg_mul]
theorem compare_mul (a b:Int) (k:Nat) (hk:0 < k):compare (a * (k:Int)) (b * (k:Int)) = compare a b:=by
 have hk':(0:Int) < (k:Int):=by omega
 rcases Int.lt_trichotomy a b with h | h | h
 ·rw [Int.compare_eq_lt.2 h,Int.compare_eq_lt.2 (Int.mul_lt_mul_of_pos_right h hk')]
 ·subst h;rw [Int.compare_eq_eq.2 rfl,Int.compare_eq_eq.2 rfl]
 ·rw [Int.compare_eq_gt.2 h,Int.compare_eq_gt.2 (Int.mul_lt_mul_of_pos_right h hk')]
theorem order_fin (s t:Bool) (m n i j:Nat):(Ieee.Datum.number s m ((i:Int) - 1074)).order (.number t n ((j:Int) - 1074)) = some (compare (sv s (m * 2 ^ i)) (sv t (n * 2 ^ j))):=by
 unfold Ieee.Datum.order
 simp only [signed_eq,Option.some.injEq]
 have e1:((i:Int) - 1074 - min ((i:Int) - 1074) ((j:Int) - 1074)).toNat = i - min i j:=by omega
 have e2:((j:Int) - 1074 - min ((i:Int) - 1074) ((j:Int) - 1074)).toNat = j - min i j:=by omega
 rw [e1,e2,← compare_mul _ _ (2 ^ min i j) (Nat.two_pow_pos _),← sv_mul,← sv_mul,Nat.mul_assoc,Nat.mul_assoc,← Nat.pow_add,← Nat.pow_add,
  show i - min i j + min i j = i by omega,show j - min i j + min i j = j by omega]
theorem order_word (s t:Bool) (a b:Nat) (ha:a < 9218868437227405312) (hb:b < 9218868437227405312):FloatKind.f64.format.order (Ieee.double.word s a) (Ieee.double.word t b) = some (compare (sv s (vR a)) (sv t (vR b))):=by
 show (FloatKind.f64.decode _).order (FloatKind.f64.decode _) = _
 rw [dec_fin s a ha,dec_fin t b hb,order_fin]
 rfl
end Go.Proofs.YtdogjghalplohaaGreatDoor.mem
namespace Go.Proofs.YtdogjghalplohaaGreatDoor.fto
open Go.ChangeShapes Go.WideShapes Go.ChangeAt Go.RowKit
open mem Go.Sort
open ints (hide unhide)
set_option linter.unusedVariables false
set_option linter.unusedSimpArgs false
def badF (x:Nat):Bool:=decide (9218868437227405312 ≤ x % 9223372036854775808)
def nanB (x:Nat):Bool:=decide (9218868437227405312 < x % 9223372036854775808)
theorem order_self (x:Nat) (h:x < 18446744073709551616):(FloatKind.f64.format.order x x != some Ordering.eq) = nanB x:=by
 have hw:=word_of x h
 obtain ⟨r,hr⟩:∃ r,r = x % 9223372036854775808:=⟨_,rfl⟩
 obtain ⟨ng,hng⟩:∃ ng,ng = decide (9223372036854775808 ≤ x):=⟨_,rfl⟩
 have hrl:r < 9223372036854775808:=by omega
 unfold nanB
 rw [← hr]
 rw [← hr,← hng] at hw
 clear hr hng
 rw [← hw]
 show ((FloatKind.f64.decode _).order (FloatKind.f64.decode _) != some Ordering.eq) = _
 rcases Nat.lt_trichotomy r 9218868437227405312 with h1 | h1 | h1
 ·rw [dec_fin ng r h1,order_fin,Int.compare_eq_eq.2 rfl,decide_eq_false (by omega)];rfl
 ·subst h1
  rw [dec_inf,decide_eq_false (by omega)]
  cases ng <;> rfl
 ·obtain ⟨f,hf⟩:=dec_nan ng r h1 hrl
  rw [hf,decide_eq_true h1];rfl
theorem gt_max (r:Nat) (h:r ≤ 9218868437227405312):(FloatKind.f64.format.order r 9218868437227405311 == some Ordering.gt) = decide (9218868437227405312 ≤ r):=by
 have e1:r = Ieee.double.word false r:=rfl
 by_cases hr:r = 9218868437227405312
 ·subst hr
  rfl
 ·rw [decide_eq_false (by omega)]
  have:=order_word false false r 9218868437227405311 (by omega) (by omega)
  have e2:FloatKind.f64.format.order r 9218868437227405311 = some (compare (sv false (vR r)) (sv false (vR 9218868437227405311))):=this
  rw [e2]
  have hle:vR r ≤ vR 9218868437227405311:=mem.vR_mono_le (by omega)
  have:compare (sv false (vR r)) (sv false (vR 9218868437227405311)) ≠ Ordering.gt:=by
   intro hc
   rw [Int.compare_eq_gt] at hc
   unfold sv at hc
   simp at hc
   omega
  cases hc:compare (sv false (vR r)) (sv false (vR 9218868437227405311)) with
  | gt => exact absurd hc this
  | lt => rfl
  | eq => rfl
theorem andNotSign (b:Nat) (h:b < 18446744073709551616):bits .andNot .u64 (b:Int) 9223372036854775808 = ((b % 9223372036854775808:Nat):Int):=by
 have:=u64_andNot_nat b 9223372036854775808 (by omega) (by omega)
 rw [show 18446744073709551615 - 9223372036854775808 = 9223372036854775807 from rfl,nat_mask63] at this
 exact this
theorem run_tobits (x:Nat) (w:World):(callFunc 37 #[.float .f64 x]).run Tryz.prog w = .ok (.value (.int .u64 x)) w:=by
 rw [run_callFunc_extern (e:=Extern.MathFloatBits.float64bits) Tryz.func37 (by kernel_rfl) (by kernel_rfl) (by kernel_rfl) (by kernel_rfl)]
 rfl
theorem run_frombits (x:Int) (w:World):(callFunc 107 #[.int .u64 x]).run Tryz.prog w = .ok (.value (.float .f64 x.toNat)) w:=by
 rw [run_callFunc_extern (e:=Extern.MathFloatBits.float64frombits) Tryz.func107 (by kernel_rfl) (by kernel_rfl) (by kernel_rfl) (by kernel_rfl)]
 rfl
theorem abs_ok (x:Nat) (w:World) (h:x < 18446744073709551616):Calls Tryz.prog 76 #[.float .f64 x] w fun e w' => e = .returned (.float .f64 (x % 9223372036854775808)) ∧ w = w':=by
 have T1:=run_tobits x w
 have e2:=andNotSign x h
 have T2:=run_frombits ((x % 9223372036854775808:Nat):Int) w
 rw [Int.toNat_natCast] at T2
 generalize x % 9223372036854775808 = r at *
 go_enter Tryz.func76,Tryz.ntmps76
 go_wp2
 go_ret
 exact ⟨rfl,rfl⟩
theorem isInf_ok (x:Nat) (w:World) (h:x < 18446744073709551616) (hn:nanB x = false):Calls Tryz.prog 35 #[.float .f64 x,.int .i64 0] w fun e w' => e = .returned (.bool (badF x)) ∧ w = w':=by
 have A:=hide (fun W => abs_ok x W h)
 have hg:=gt_max (x % 9223372036854775808) (by unfold nanB at hn;simpa using hn)
 have hB:=hide (show badF x = decide (9218868437227405312 ≤ x % 9223372036854775808) from rfl)
 clear hn h
 generalize x % 9223372036854775808 = r at *
 rw [← unhide hB] at hg
 clear hB
 generalize badF x = B at *
 go_enter Tryz.func35,Tryz.ntmps35
 go_wp2_with fail
 refine (unhide A _).mono ?_
 rintro e w1 ⟨rfl,rfl⟩
 clear A
 go_wp2
 go_ret
 exact ⟨by first | rfl | (rw [← hg];rfl),rfl⟩
end Go.Proofs.YtdogjghalplohaaGreatDoor.fto
namespace Go.Proofs.YtdogjghalplohaaGreatDoor.fto
open Go.ChangeShapes Go.WideShapes Go.ChangeAt Go.RowKit
open mem Go.Sort
open ints (hide unhide)
set_option linter.unusedVariables false
set_option linter.unusedSimpArgs false
theorem nan_bad {x:Nat} (hb:badF x = false):nanB x = false:=by
 unfold badF at hb
 unfold nanB
 have:=of_decide_eq_false hb
 exact decide_eq_false (by omega)
end Go.Proofs.YtdogjghalplohaaGreatDoor.fto
namespace Go.Proofs.YtdogjghalplohaaGreatDoor.fto
open Go.ChangeShapes Go.WideShapes Go.ChangeAt Go.RowKit
open mem Go.Sort
open ints (hide unhide)
set_option linter.unusedVariables false
theorem run_fromb (x:Int) (w:World):(callFunc 184 #[.int .u64 x]).run Tryz.prog w = .ok (.value (.float .f64 x.toNat)) w:=by
  rw [run_callFunc_extern (e:=Extern.MathFloatBits.float64frombits) Tryz.func184 (by kernel_rfl) (by kernel_rfl) (by kernel_rfl) (by kernel_rfl)]
  rfl
theorem and_key (V:Nat):V &&& 2 ^ 52 = if V / 2 ^ 52 % 2 = 1 then 2 ^ 52 else 0:=by
  apply Nat.eq_of_testBit_eq
  intro i
  rw [Nat.testBit_and,Nat.testBit_two_pow]
  by_cases hi:52 = i
  · subst hi
    rw [decide_eq_true rfl,Bool.and_true,Nat.testBit_eq_decide_div_mod_eq]
    split
    · rename_i h;rw [decide_eq_true h,Nat.testBit_two_pow_self]
    · rename_i h;rw [decide_eq_false h,Nat.zero_testBit]
  · rw [decide_eq_false hi,Bool.and_false]
    split
    · rw [Nat.testBit_two_pow,decide_eq_false hi]
    · rw [Nat.zero_testBit]
/-- the bit 52 of a number below 2^53,with or without a sign -/
theorem and52 (S m:Nat) (hS:S = 0 ∨ S = 9223372036854775808) (hm:m < 9007199254740992):bits .and .u64 ((S + m:Nat):Int) 4503599627370496 = (((if m < 4503599627370496 then 0 else 4503599627370496):Nat):Int):=by
  have h:=u64_and_nat (S + m) 4503599627370496 (by omega) (by decide)
  refine h.trans ?_
  congr 1
  have k:=and_key (S + m)
  rw [show (2:Nat) ^ 52 = 4503599627370496 from rfl] at k
  rw [k]
  by_cases h1:m < 4503599627370496
  · rw [if_pos h1,if_neg (by omega)]
  · rw [if_neg h1,if_pos (by omega)]
theorem or_sgn (S m:Nat) (hS:S = 0 ∨ S = 9223372036854775808) (hm:m < 9223372036854775808):S ||| m = S + m:=by
  rcases hS with rfl | rfl
  · rw [Nat.zero_or,Nat.zero_add]
  · have:=Nat.two_pow_add_eq_or_of_lt (i:=63) (b:=m) hm 1
    rw [Nat.mul_one] at this
    exact this.symm
theorem low52 (r z:Nat) (hr:r < 4503599627370496) (hz:4503599627370495 &&& z = 4503599627370495):r &&& z = r:=by
  have h1:r &&& 4503599627370495 = r:=by
    have:=Nat.and_two_pow_sub_one_eq_mod r 52
    rw [show 2 ^ 52 - 1 = 4503599627370495 from rfl] at this
    rw [this]
    exact Nat.mod_eq_of_lt hr
  calc r &&& z = (r &&& 4503599627370495) &&& z:=by rw [h1]
    _ = r &&& (4503599627370495 &&& z):=Nat.and_assoc _ _ _
    _ = r:=by rw [hz,h1]
theorem not52 (S r:Nat) (hS:S = 0 ∨ S = 9223372036854775808) (hr:r < 4503599627370496):bits .andNot .u64 ((S + (4503599627370496 + r):Nat):Int) 4503599627370496 = ((S + r:Nat):Int):=by
  have h:=u64_andNot_nat (S + (4503599627370496 + r)) 4503599627370496 (by omega) (by decide)
  refine h.trans ?_
  congr 1
  have e1:4503599627370496 + r = 4503599627370496 ||| r:=by
    have:=Nat.two_pow_add_eq_or_of_lt (i:=52) (b:=r) hr 1
    rw [Nat.mul_one] at this
    exact this
  rw [← or_sgn S _ hS (by omega),← or_sgn S r hS (by omega),e1,Nat.and_or_distrib_right,Nat.and_or_distrib_right,low52 r _ hr (by decide)]
  rcases hS with rfl | rfl
  · rw [Nat.zero_and,show (4503599627370496 &&& (18446744073709551615 - 4503599627370496):Nat) = 0 by decide,Nat.zero_or]
  · rw [show (4503599627370496 &&& (18446744073709551615 - 4503599627370496):Nat) = 0 by decide,show (9223372036854775808 &&& (18446744073709551615 - 4503599627370496):Nat) = 9223372036854775808 by decide,Nat.zero_or]
theorem or_exp (S r E:Nat) (hS:S = 0 ∨ S = 9223372036854775808) (hr:r < 4503599627370496) (hE:E ≤ 2046):bits .or .u64 ((S + r:Nat):Int) ((E * 4503599627370496:Nat):Int) = ((S + (r + E * 4503599627370496):Nat):Int):=by
  have h:=u64_or_nat (S + r) (E * 4503599627370496) (by omega) (by omega)
  refine h.trans ?_
  congr 1
  have e1:r + E * 4503599627370496 = r ||| E * 4503599627370496:=by
    have:=Nat.two_pow_add_eq_or_of_lt (i:=52) (b:=r) hr E
    rw [show 2 ^ 52 = 4503599627370496 from rfl] at this
    rw [Nat.or_comm,Nat.mul_comm,← this]
    omega
  rw [← or_sgn S r hS (by omega),Nat.or_assoc,← e1,or_sgn S _ hS (by omega)]
theorem pk_lo (S m:Nat) (x:Int) (w:World) (hS:S = 0 ∨ S = 9223372036854775808) (hm:m < 4503599627370496):Calls Tryz.prog 210 #[.int .u64 ((S + m:Nat):Int),.int .i64 x] w fun e w' => e = .returned (.tuple #[.float .f64 (S + m),.nilIface]) ∧ w' = w:=by
  have a:=and52 S m hS (by omega)
  rw [if_pos hm] at a
  obtain ⟨V,hV⟩:∃ V,V = S + m:=⟨_,rfl⟩
  rw [← hV] at a ⊢
  have hV1:V < 18446744073709551616:=by omega
  have rb:=run_fromb (V:Int)
  clear hV
  go_enter Tryz.func210,Tryz.ntmps210
  go_wp2
  go_ret2
  exact ⟨rfl,rfl⟩
set_option maxHeartbeats 1000000 in
set_option maxRecDepth 100000 in
theorem pk_hi (S r E:Nat) (x:Int) (w:World) (hS:S = 0 ∨ S = 9223372036854775808) (hr:r < 4503599627370496) (hE:1075 + x = (E:Int)) (hE1:E ≤ 2046):Calls Tryz.prog 210 #[.int .u64 ((S + (4503599627370496 + r):Nat):Int),.int .i64 x] w fun e w' => e = .returned (.tuple #[.float .f64 (S + (r + E * 4503599627370496)),.nilIface]) ∧ w' = w:=by
  have a:=and52 S (4503599627370496 + r) hS (by omega)
  rw [if_neg (by omega)] at a
  have b:=not52 S r hS hr
  have c:=or_exp S r E hS hr hE1
  obtain ⟨V,hV⟩:∃ V,V = S + (4503599627370496 + r):=⟨_,rfl⟩
  obtain ⟨V1,hV1⟩:∃ V,V = S + r:=⟨_,rfl⟩
  obtain ⟨V2,hV2⟩:∃ V,V = S + (r + E * 4503599627370496):=⟨_,rfl⟩
  rw [← hV] at a b ⊢
  rw [← hV1] at b c
  rw [← hV2] at c ⊢
  have rb:=run_fromb (V2:Int) w
  rw [Int.toNat_natCast] at rb
  have l1:V < 18446744073709551616:=by omega
  have l2:V1 < 18446744073709551616:=by omega
  have hx:x = (E:Int) - 1075:=by omega
  have hx1:(E:Int) ≤ 2046:=by omega
  rw [Int.natCast_mul] at c
  have c':bits .or .u64 (V1:Int) ((1075 + ((E:Int) - 1075)) * 4503599627370496) = (V2:Int):=by rw [show 1075 + ((E:Int) - 1075) = E by omega];exact c
  clear c
  subst hx
  clear hV hV1 hV2 hE
  go_enter Tryz.func210,Tryz.ntmps210
  go_wp2
  go_ret2
  exact ⟨rfl,rfl⟩
end Go.Proofs.YtdogjghalplohaaGreatDoor.fto
