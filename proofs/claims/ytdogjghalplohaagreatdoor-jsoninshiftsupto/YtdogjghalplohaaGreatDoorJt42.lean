import Derived.Test.YtdogjghalplohaaGreatDoorJt41
set_option linter.unusedVariables false
set_option linter.unusedSimpArgs false
namespace Go.Proofs.YtdogjghalplohaaGreatDoor.jin
open Go.ChangeShapes Go.WideShapes Go.ChangeAt Go.RowKit
open mem Go.Maps
open vl (Vl Vls Fls VlC VlsAt FlsAt Row8 Small SmallI SmallF infoV)
open ints (Hi uh hexV)
open fto (bytZ)
theorem one_valS(v:Value)(h:v.oneCell'=true):∀ u∈[v],u.oneCell'=true:=by intro u hu;simp at hu;subst hu;exact h
theorem cellvS(w:World)(x:Value)(t:TypeId):∀ j u,[x][j]? = some u→(w.alloc (.cells #[x] t)).cell? ((⟨w.heap.size,0,none⟩:Addr).add j)=some u:=by
  intro j u hj
  match j,hj with
  | 0,hj=>simp at hj;subst hj;simp[Addr.add]
  | (j+1),hj=>simp at hj
theorem append_oneS{P:Program}(w:World){ops:Array Oper}{rest:List Oper}{o:Oper}{a:Act}{Q:Exit→Act→World→Prop}(hgd:o.guard=none)(s x:Operand)(t:TypeId)
    (ho:o.op = .call { callee:=.builtin .append,args:=#[s,x],argTypes:=#[t,t] })
    (base:Nat) (e:TypeId) (i:TypeInfo) (k:IntKind) (bytes:Nat) (ht:P.underlying t=some (.slice e)) (hi:P.info? e=some i) (hz:i.zero=some (.int k 0))
    (hsize:i.size=1) (hby:i.bytes=bytes)
    (v:Value) (n:Nat) (xs:List Value) (hs:a.eval s=v) (hown:w.ownsRow base e 1 v n xs) (u:Int)
    (hx:a.eval x = .slice (some ⟨w.heap.size,0,none⟩) 1 1)
    (h63:n+1≤maxLen) (hbytes:(n+1) * bytes≤140737488355328) (hbase:base≤w.heap.size)
    (h:∀ v' w',w'.ownsRow base e 1 v' (n+1) (xs++[.int k u])→Below base w w'→wpList P ops Q rest (a.put o.dst v') w') :
    wpList P ops Q (o::rest) a (w.alloc (.cells #[.int k u] e)):=by
  refine wpList_append_own _ hgd s x t ho base e i (.int k 0) 1 bytes ht hi hz hsize hby rfl (by decide) v n xs hs (hown.alloc _) ⟨w.heap.size,0,none⟩ 1 1 [.int k u] hx rfl (cellvS w _ e) (one_valS _ rfl) h63 hbytes (by simp;omega) ?_
  intro v' w' ho' hg _
  exact h v' w' ho' (((Below.refl _ _).alloc hbase _).grown hg (by simp;omega) (fun q hq=>(hown.lt q hq).1))
theorem sh_eq0:Tryz.f4.body=some (.seq (navS (lawF Tryz.f4) [0]) (.seq (navS (lawF Tryz.f4) [1,0]) (.seq (navS (lawF Tryz.f4) [1,1,0]) (.seq (navS (lawF Tryz.f4) [1,1,1,0]) (navS (lawF Tryz.f4) [1,1,1,1]))))):=by kernel_rfl
set_option maxHeartbeats 4000000 in
set_option maxRecDepth 6000 in
theorem law_shifts{a ab:Option Addr}{n c nb cb:Nat}{Z Y:List Int}(w:World)(hW:dcm.Fz w)(hrow:Row .u8 w a n c Z)(hrb:Row .u8 w ab nb cb Y)(hZ:∀ z∈Z,0≤z∧z≤255)(hY:∀ z∈Y,0≤z∧z≤255)(hn:n≤1048576)(hnb:nb≤1048576)(depth:Int) :
    Calls Tryz.prog 4 #[.slice a n c,.slice ab nb cb,.int .i64 depth] w fun e w'=>e = .returned (.bool true)∧Below w.heap.size w w':=by
  obtain⟨i0,hi,hz0,hz1,hz2⟩:=info_parts info8
  have INF:=Hi (And.intro hi (And.intro hz0 (And.intro hz1 hz2)))
  clear hi hz0 hz1 hz2
  refine calls_of_wp Tryz.func4 sh_eq0 ?_
  obtain⟨REST,hREST⟩:∃ R,R=navS (lawF Tryz.f4) [1,1,1,1]:=⟨_,rfl⟩
  rw[←hREST]
  have HREST:=Hi hREST
  clear hREST
  simp only[lawF,navS,Tryz.f4,Option.getD_some]
  simp only[Tryz.ntmps4,List.size_toArray,List.length_cons,List.length_nil,Nat.reduceAdd,Nat.reduceSub,Array.replicate_succ,Array.replicate_zero,List.push_toArray,List.append_toArray,List.nil_append,List.cons_append]
  go_wp2_with fail
  refine (fixed_ok w hW).mono ?_
  rintro e w1 ⟨rfl,B1⟩
  go_wp2_with fail
  go_loopw [7,8] (fun v7 v8 wr=>∃ (k:Nat) (W:List Int),k≤nb∧v8 = .int .i64 k∧Hid (W.length=k∧(∀ z∈W,blB z=true)∧wr.ownsRow w1.heap.size 5 1 v7 k (W.map (Value.int .u8))∧Below w1.heap.size w1 wr)) (fun _ v8 _=>nb-(intOf v8).toNat)
  case atStart=>exact⟨0,[],Nat.zero_le _,rfl,rfl,by simp,⟨rfl,.inl ⟨rfl,rfl⟩⟩,Below.refl _ _⟩
  case round =>
    obtain⟨k,W,hk1,rfl,HI⟩:=hrel
    obtain⟨hWl,hWb,hown,hBr⟩:=uh HI
    by_cases hlt:k<nb
    · have ki:(k:Int)<(nb:Int):=by omega
      obtain⟨b0,off0,rfl,hb0⟩:∃ b0 off0,ab=some ⟨b0,off0,none⟩∧b0<w.heap.size:=by
        rcases hrb.at_ with h | ⟨b0,off0,h,hb,-⟩
        · omega
        · exact⟨b0,off0,h,hb⟩
      have B2:Below w.heap.size w wr:=B1.trans (hBr.mono B1.size)
      have hc:=row_cell (hrb.below B2) k hlt
      have hlb:b0<wr.heap.size:=Nat.lt_of_lt_of_le hb0 B2.size
      obtain⟨z,hz⟩:∃ z,z=Y.getD k 0:=⟨_,rfl⟩
      have hzr:0≤z∧z≤255:=by
        rw[hz]
        refine hY _ ?_
        have hl:=hrb.len
        rw[List.getD_eq_getElem?_getD,List.getElem?_eq_getElem (by omega)]
        exact List.getElem_mem _
      rw[←hz] at hc
      obtain⟨hi,hz0,hz1,hz2⟩:=uh INF
      have hsl:=hBr.size
      have OWN:=Hi hown
      have HWB:=Hi hWb
      have HBR:=Hi hBr
      clear hz hown hWb hBr HI
      have hq0:z.tmod 4=z%4:=Int.tmod_eq_emod_of_nonneg hzr.1
      have hq4:z%4=0∨z%4=1∨z%4=2∨z%4=3:=by omega
      rcases hq4 with hq | hq | hq | hq
      · have hq1:z.tmod 4=0:=by omega
        go_wp2_with (at_builtin;refine append_oneS _ rfl _ _ 22 rfl w1.heap.size 5 i0 .u8 1 Tryz.underlying22 hi hz0 hz1 hz2 _ _ _ rfl (uh OWN) _ rfl (by unfold maxLen;omega) (by omega) (by omega) ?_;intro v' wC hown' hbC)
        go_roundw
        case rel =>
          refine⟨k+1,W++[32],by omega,by go_num,by rw[List.length_append,hWl];rfl,fun z hz=>?_,by rw[List.map_append];exact hown',(uh HBR).trans hbC⟩
          rcases List.mem_append.1 hz with h | h
          · exact (uh HWB) z h
          · rw[List.mem_singleton.1 h];decide
        case measure=>simp[intOf];omega
      · have hq1:z.tmod 4=1:=by omega
        go_wp2_with (at_builtin;refine append_oneS _ rfl _ _ 22 rfl w1.heap.size 5 i0 .u8 1 Tryz.underlying22 hi hz0 hz1 hz2 _ _ _ rfl (uh OWN) _ rfl (by unfold maxLen;omega) (by omega) (by omega) ?_;intro v' wC hown' hbC)
        go_roundw
        case rel =>
          refine⟨k+1,W++[9],by omega,by go_num,by rw[List.length_append,hWl];rfl,fun z hz=>?_,by rw[List.map_append];exact hown',(uh HBR).trans hbC⟩
          rcases List.mem_append.1 hz with h | h
          · exact (uh HWB) z h
          · rw[List.mem_singleton.1 h];decide
        case measure=>simp[intOf];omega
      · have hq1:z.tmod 4=2:=by omega
        go_wp2_with (at_builtin;refine append_oneS _ rfl _ _ 22 rfl w1.heap.size 5 i0 .u8 1 Tryz.underlying22 hi hz0 hz1 hz2 _ _ _ rfl (uh OWN) _ rfl (by unfold maxLen;omega) (by omega) (by omega) ?_;intro v' wC hown' hbC)
        go_roundw
        case rel =>
          refine⟨k+1,W++[10],by omega,by go_num,by rw[List.length_append,hWl];rfl,fun z hz=>?_,by rw[List.map_append];exact hown',(uh HBR).trans hbC⟩
          rcases List.mem_append.1 hz with h | h
          · exact (uh HWB) z h
          · rw[List.mem_singleton.1 h];decide
        case measure=>simp[intOf];omega
      · have hq1:z.tmod 4=3:=by omega
        go_wp2_with (at_builtin;refine append_oneS _ rfl _ _ 22 rfl w1.heap.size 5 i0 .u8 1 Tryz.underlying22 hi hz0 hz1 hz2 _ _ _ rfl (uh OWN) _ rfl (by unfold maxLen;omega) (by omega) (by omega) ?_;intro v' wC hown' hbC)
        go_roundw
        case rel =>
          refine⟨k+1,W++[13],by omega,by go_num,by rw[List.length_append,hWl];rfl,fun z hz=>?_,by rw[List.map_append];exact hown',(uh HBR).trans hbC⟩
          rcases List.mem_append.1 hz with h | h
          · exact (uh HWB) z h
          · rw[List.mem_singleton.1 h];decide
        case measure=>simp[intOf];omega
    · obtain rfl:k=nb:=by omega
      obtain⟨aw,cw,rfl,hrw⟩:=own_row hown
      have B2:Below w.heap.size w wr:=B1.trans (hBr.mono B1.size)
      clear HI hown hBr
      go_wp2_with fail
      rw[uh HREST]
      exact sh_one (hW.below B2) B2 (hrow.below B2) hrw hZ hWb hn hnb depth
end Go.Proofs.YtdogjghalplohaaGreatDoor.jin
