import Derived.Test.YtepmbmbnlmbhhaaGreatLit5
set_option linter.unusedVariables false
set_option linter.unusedSimpArgs false
namespace Go.Proofs.YtepmbmbnlmbhhaaGreat.lx
open Go.ChangeShapes Go.WideShapes Go.ChangeAt Go.RowKit
open ints (Hi uh hexV)
open mem
theorem append_row {P:Program} (w:World) {ops:Array Oper} {rest:List Oper} {o:Oper} {a:Act} {Q:Exit → Act → World → Prop} (hgd:o.guard = none) (s x:Operand) (t:TypeId)
  (ho:o.op = .call { callee:=.builtin .append,args:=#[s,x],argTypes:=#[t,t] })
  (base:Nat) (e:TypeId) (i:TypeInfo) (k:IntKind) (bytes:Nat) (ht:P.underlying t = some (.slice e)) (hi:P.info? e = some i) (hz:i.zero = some (.int k 0))
  (hsize:i.size = 1) (hby:i.bytes = bytes)
  (v:Value) (n:Nat) (xs:List Value) (hs:a.eval s = v) (hown:w.ownsRow base e 1 v n xs)
  (ad:Option Addr) (m c:Nat) (zs:List Int) (hx:a.eval x = .slice ad m c) (hrow:Row k w ad m c zs)
  (h63:n + m ≤ maxLen) (hbytes:(n + m) * bytes ≤ 140737488355328) (hbase:base ≤ w.heap.size)
  (h:∀ v' w',w'.ownsRow base e 1 v' (n + m) (xs ++ zs.map (Value.int k)) → Below base w w' → wpList P ops Q rest (a.put o.dst v') w') :
  wpList P ops Q (o :: rest) a w:=by
 cases ad with
 | none =>
  have hc:=hrow.nil rfl
  have hm:m = 0:=by have:=hrow.le;omega
  subst hc hm
  have hz0:zs = []:=List.eq_nil_of_length_eq_zero hrow.len
  subst hz0
  exact wpList_append_own_none hgd s x t ho base e i 1 ht hi v n xs hs hown hx (h v w (by simpa using hown) (Below.refl _ _))
 | some ad =>
  refine wpList_append_own w hgd s x t ho base e i (.int k 0) 1 bytes ht hi hz hsize hby rfl (by decide) v n xs hs hown ad m c (zs.map (Value.int k)) hx (by simp [hrow.len]) (hrow.cells ad rfl) (ints_oneCell _ _) h63 hbytes hbase ?_
  intro v' w' ho' hg _
  exact h v' w' ho' ((Below.refl _ _).grown hg hbase (fun q hq => (hown.lt q hq).1))
def BlkPost (w:World) (l:List Int) (e:Ending) (w':World):Prop:=
 match blk l with
 | none => e = .returned (.tuple #[.slice none 0 0,.bool false])
 | some r => ∃ v,e = .returned (.tuple #[v,.bool r.2]) ∧ w'.ownsRow w.heap.size 21 1 v r.1.length (r.1.map (Value.int .i32))
theorem cAt_zero {l:List Int} (h:0 < l.length):cAt l 0 = l.getD 0 0:=by unfold cAt;rw [if_pos h]
set_option maxHeartbeats 4000000 in
set_option maxRecDepth 4000 in
theorem blockChars_ok (a:Option Addr) (n c:Nat) (l:List Int) (w:World) (h:Row .i32 w a n c l) (hn:n ≤ 1099511627776) :
  Calls Tryz.prog 158 #[.slice a n c] w fun e w' => BlkPost w l e w' ∧ Below w.heap.size w w':=by
 obtain ⟨i0,hi,hz0,hz1,hz2⟩:=info_parts info32
 have HL:=Hi h.len
 go_enter Tryz.func158,Tryz.ntmps158
 go_wp2_with fail
 go_loopw [0,4,5,6] (fun v ch qv ov wr => ∃ a' n' c' l' d fu q o,v = .slice a' n' c' ∧ Row .i32 w a' n' c' l' ∧ n' ≤ fu ∧ d.length + n' ≤ n ∧ q ≤ 2 ∧ qv = .int .i64 (q:Nat) ∧ ov = .bool o ∧ Hid (blk l = (blkF fu l' q o).map (fun r => (d ++ r.1,r.2))) ∧ wr.ownsRow w.heap.size 21 1 ch d.length (d.map (Value.int .i32)) ∧ Below w.heap.size w wr) (fun v _ _ _ _ => slN v)
 case atStart =>
  refine ⟨a,n,c,l,[],n,0,false,rfl,h,Nat.le_refl _,by simp,by omega,rfl,rfl,Hi ?_,World.ownsRow_nil _ _ _ _,Below.refl _ _⟩
  unfold blk
  rw [uh HL]
  simp
 case round =>
  obtain ⟨a1,n1,c1,l1,d,fu,q,o,rfl,hR,hfu,hdn,hq2,rfl,rfl,HQ,hown,hbel⟩:=hrel
  by_cases h0:0 < n1
  ·have i0':(0:Int) < (n1:Int):=by omega
   have hl1:=hR.len
   have hle1:=hR.le
   obtain ⟨b,off,rfl⟩:∃ b off,a1 = some ⟨b,off,none⟩:=by
    rcases hR.at_ with h1 | ⟨b,off,e,_⟩
    ·omega
    ·exact ⟨b,off,e⟩
   obtain ⟨f2,rfl⟩:∃ f2,fu = f2 + 1:=⟨fu - 1,by omega⟩
   have HE:=Hi (escq_ok _ n1 c1 l1 _ (hR.below hbel) (by omega))
   have HQ2:=Hi (show blk l = (if eqB l1 = true then (blkF f2 (l1.drop 4) 0 false).map (fun r => (34 :: 34 :: 34 :: r.1,r.2))
     else if cAt l1 0 = 34 then (if q = 2 ∨ soB 34 = false then none else (blkF f2 (l1.drop 1) (q + 1) true).map (fun r => (34 :: r.1,r.2)))
     else if soB (cAt l1 0) = false then none
     else (blkF f2 (l1.drop 1) 0 (decide (cAt l1 0 = 92))).map (fun r => (cAt l1 0 :: r.1,r.2))).map (fun r => (d ++ r.1,r.2)) from by
    rw [uh HQ]
    conv => lhs;unfold blkF
    rw [if_neg (by omega)])
   have HRD:=Hi (fun (j:Nat) (hj:j ≤ n1) => row_drop hR j hj)
   have HRZ:=Hi (fun (j:Nat) (hj:j = n1) => row_zero hR j hj)
   have HLL:=Hi hl1
   clear hl1 HQ
   obtain ⟨aB,cB,rfl⟩:=own_shp hown
   cases hE:eqB l1 with
   | true =>
    have h4:4 ≤ n1:=by rw [← uh HLL];exact eqB_len l1 hE
    have HM:=Hi (row_mid hR 1 4 (by omega) h4)
    rw [eqB_ins l1 hE] at HM
    have HQ3:=Hi (show blk l = (blkF f2 (l1.drop 4) 0 false).map (fun r => ((d ++ [34,34,34]) ++ r.1,r.2)) from by
     rw [uh HQ2,if_pos hE,Option.map_map]
     congr 1
     funext r
     simp)
    rw [hE] at HE
    clear HQ2 hE
    have k4:(4:Int) ≤ (n1:Int):=by omega
    have k4c:(4:Int) ≤ (c1:Int):=by omega
    have pc:¬ c1 = 1:=by omega
    go_wp2_with fail
    refine (uh HE).mono ?_
    rintro e w1 ⟨rfl,hb1⟩
    have hown1:=own_below hown hb1
    have hbs:=hbel.size
    have hb1s:=hb1.size
    go_wp2_with (at_builtin;refine append_row _ rfl _ _ 109 rfl w.heap.size 21 i0 .i32 4 Tryz.underlying109 hi hz0 hz1 hz2 _ _ _ rfl hown1 _ _ _ [34,34,34] rfl (((uh HM).below hbel).below hb1) (by unfold maxLen;omega) (by omega) (by omega) ?_;intro v' wC hown' hbC)
    refine ⟨⟨_,_,_,l1.drop 4,d ++ [34,34,34],f2,0,false,rfl,?_,by omega,by rw [List.length_append];simp only [List.length_cons,List.length_nil];omega,by omega,by go_num,rfl,HQ3,?_,?_⟩,?_⟩
    ·by_cases hc1:c1 = 4
     ·rw [if_pos hc1]
      have hr:=uh HRZ 4 (by omega)
      rw [show c1 - 4 = 0 by omega]
      exact hr
     ·rw [if_neg hc1]
      exact uh HRD 4 (by omega)
    ·rw [List.length_append,List.map_append]
     exact hown'
    ·exact (hbel.trans (hb1.mono hbs)).trans hbC
    ·show n1 - 4 < n1
     omega
   | false =>
    have k1:(1:Int) ≤ (n1:Int):=by omega
    have k1c:(1:Int) ≤ (c1:Int):=by omega
    rw [hE] at HE
    have hx0:cAt l1 0 = l1.getD 0 0:=cAt_zero (by rw [uh HLL];exact h0)
    obtain ⟨x,hx⟩:∃ x,x = cAt l1 0:=⟨_,rfl⟩
    have HQ5:=Hi (show blk l = (if x = 34 then (if q = 2 ∨ soB 34 = false then none else (blkF f2 (l1.drop 1) (q + 1) true).map (fun r => (34 :: r.1,r.2)))
     else if soB x = false then none
     else (blkF f2 (l1.drop 1) 0 (decide (x = 92))).map (fun r => (x :: r.1,r.2))).map (fun r => (d ++ r.1,r.2)) from by
      rw [uh HQ2,if_neg (by rw [hE];decide),hx])
    have HC:=Hi (show ∀ W,Below w.heap.size w W → W.cell? ⟨b,off,none⟩ = some (.int .i32 x) from fun W hW => by
     rcases (hR.below hW).at_ with h1 | ⟨b',off',e,_,hc⟩
     ·omega
     ·simp only [Option.some.injEq,Addr.mk.injEq] at e
      obtain ⟨rfl,rfl,_⟩:=e
      have:=hc 0 h0
      rw [hx,hx0]
      exact this)
    clear HQ2 hE hx hx0
    by_cases h34:x = 34
    ·subst h34
     have S:=Hi (fun W => source_ok 34 W)
     rw [show soB 34 = true from by decide] at S
     by_cases hq3:q = 2
     ·have hf:=Hi (show blk l = none from by rw [uh HQ5,if_pos rfl,if_pos (.inl hq3)];rfl)
      subst hq3
      clear HQ5
      go_wp2_with fail
      refine (uh HE).mono ?_
      rintro e w1 ⟨rfl,hb1⟩
      have hcl:=uh HC w1 (hbel.trans (hb1.mono hbel.size))
      go_wp2_with fail
      go_ret2
      exact ⟨by unfold BlkPost;rw [uh hf];rfl,hbel.trans (hb1.mono hbel.size)⟩
     ·have HQ3:=Hi (show blk l = (blkF f2 (l1.drop 1) (q + 1) true).map (fun r => ((d ++ [34]) ++ r.1,r.2)) from by
       rw [uh HQ5,if_pos rfl,if_neg (fun e => by rcases e with e | e;exact hq3 e;exact absurd e (by decide)),Option.map_map]
       congr 1
       funext r
       simp)
      have q3:(((q:Int) + 1) == 3) = false:=by simp;omega
      have q3':¬ ((q:Int) + 1) = 3:=by omega
      clear HQ5
      go_wp2_with fail
      refine (uh HE).mono ?_
      rintro e w1 ⟨rfl,hb1⟩
      have hcl:=uh HC w1 (hbel.trans (hb1.mono hbel.size))
      have hown1:=own_below hown hb1
      have hbs:=hbel.size
      have hb1s:=hb1.size
      go_wp2_with fail
      refine (uh S _).mono ?_
      rintro e w2 ⟨rfl,rfl⟩
      go_wp2_with (at_builtin;refine append_one _ rfl _ _ 109 rfl w.heap.size 21 i0 .i32 4 Tryz.underlying109 hi hz0 hz1 hz2 _ _ _ rfl hown1 _ rfl (by unfold maxLen;omega) (by omega) (by omega) ?_;intro v' wC hown' hbC)
      refine ⟨⟨_,_,_,l1.drop 1,d ++ [34],f2,q + 1,true,rfl,?_,by omega,by rw [List.length_append];simp only [List.length_cons,List.length_nil];omega,by omega,by go_num,rfl,HQ3,?_,?_⟩,?_⟩
      ·by_cases hc1:c1 = 1
       ·rw [if_pos hc1]
        have hr:=uh HRZ 1 (by omega)
        rw [show c1 - 1 = 0 by omega]
        exact hr
       ·rw [if_neg hc1]
        exact uh HRD 1 (by omega)
      ·rw [List.length_append,List.map_append]
       exact hown'
      ·exact (hbel.trans (hb1.mono hbs)).trans hbC
      ·show n1 - 1 < n1
       omega
    ·have e34:(x == 34) = false:=by simp;exact h34
     have S:=Hi (fun W => source_ok x W)
     cases hsx:soB x with
     | false =>
      have hf:=Hi (show blk l = none from by rw [uh HQ5,if_neg h34,if_pos hsx];rfl)
      rw [hsx] at S
      clear HQ5 hsx
      go_wp2_with fail
      refine (uh HE).mono ?_
      rintro e w1 ⟨rfl,hb1⟩
      have hcl:=uh HC w1 (hbel.trans (hb1.mono hbel.size))
      go_wp2_with fail
      refine (uh S _).mono ?_
      rintro e w2 ⟨rfl,rfl⟩
      go_wp2_with fail
      go_ret2
      exact ⟨by unfold BlkPost;rw [uh hf];rfl,hbel.trans (hb1.mono hbel.size)⟩
     | true =>
      have HQ3:=Hi (show blk l = (blkF f2 (l1.drop 1) 0 (decide (x = 92))).map (fun r => ((d ++ [x]) ++ r.1,r.2)) from by
       rw [uh HQ5,if_neg h34,if_neg (by rw [hsx];decide),Option.map_map]
       congr 1
       funext r
       simp)
      rw [hsx] at S
      clear HQ5 hsx
      go_wp2_with fail
      refine (uh HE).mono ?_
      rintro e w1 ⟨rfl,hb1⟩
      have hcl:=uh HC w1 (hbel.trans (hb1.mono hbel.size))
      have hown1:=own_below hown hb1
      have hbs:=hbel.size
      have hb1s:=hb1.size
      go_wp2_with fail
      refine (uh S _).mono ?_
      rintro e w2 ⟨rfl,rfl⟩
      go_wp2_with (at_builtin;refine append_one _ rfl _ _ 109 rfl w.heap.size 21 i0 .i32 4 Tryz.underlying109 hi hz0 hz1 hz2 _ _ _ rfl hown1 _ rfl (by unfold maxLen;omega) (by omega) (by omega) ?_;intro v' wC hown' hbC)
      refine ⟨⟨_,_,_,l1.drop 1,d ++ [x],f2,0,decide (x = 92),rfl,?_,by omega,by rw [List.length_append];simp only [List.length_cons,List.length_nil];omega,by omega,by go_num,rfl,HQ3,?_,?_⟩,?_⟩
      ·by_cases hc1:c1 = 1
       ·rw [if_pos hc1]
        have hr:=uh HRZ 1 (by omega)
        rw [show c1 - 1 = 0 by omega]
        exact hr
       ·rw [if_neg hc1]
        exact uh HRD 1 (by omega)
      ·rw [List.length_append,List.map_append]
       exact hown'
      ·exact (hbel.trans (hb1.mono hbs)).trans hbC
      ·show n1 - 1 < n1
       omega
  ·have hz:n1 = 0:=by omega
   subst hz
   have hq:=Hi (show blk l = some (d,!o) from by rw [uh HQ,blkF_nil fu l1 q o hR.len];simp)
   obtain ⟨aB,cB,rfl⟩:=own_shp hown
   clear HQ
   go_wp2_with fail
   go_ret2
   exact ⟨by unfold BlkPost;rw [uh hq];exact ⟨_,rfl,hown⟩,hbel⟩
def endB (l:List Int):Nat → Nat → Option Nat
 | 0,_ => none
 | k + 1,i => if tq l i = true then some i
  else if cAt l i = 92 ∧ tq l (i + 1) = true then endB l k (i + 4)
  else if soB (cAt l i) = false then none else endB l k (i + 1)
def blcR (bS:List Int → ByteArray) (l:List Int) (p:Nat) (R:Option Nat):Int × Nat × ByteArray:=
 match R with
 | none => (1,p,⟨#[]⟩)
 | some i => (7,i + 3,bS (insZ l (p + 3) i))
def blc (bS:List Int → ByteArray) (l:List Int) (p:Nat):Int × Nat × ByteArray:=blcR bS l p (endB l (l.length + 2) (p + 3))
theorem tq_len (l:List Int) (i:Nat) (h:tq l i = true):i + 2 < l.length:=by
 unfold tq at h
 exact cAt_34 l (i + 2) (of_decide_eq_true h).2.2
set_option maxHeartbeats 4000000 in
set_option maxRecDepth 4000 in
theorem blc_ok (bS:List Int → ByteArray) (bE:List Int → Int)
  (hB:∀ (a:Option Addr) (n c:Nat) (l:List Int) (w:World),Row .i32 w a n c l → n ≤ 1099511627776 → (∀ x ∈ l,scP x) → Calls Tryz.prog 140 #[.slice a n c] w fun e w' => e = .returned (.tuple #[.string (bS l),.int .i64 (bE l)]) ∧ Below w.heap.size w w')
  (a:Option Addr) (n c:Nat) (cl:Bool) (l:List Int) (p:Nat) (w:World) (h:Row .i32 w a n c l) (hn:n ≤ 1099511627776) (hp:p + 3 ≤ n) (hs:∀ x ∈ l,scP x) :
  Calls Tryz.prog 117 #[src a n c cl,.int .i64 (p:Int)] w fun e w' => e = .returned (.tuple #[.int .i64 (blc bS l p).1,.int .i64 ((blc bS l p).2.1:Int),.string (blc bS l p).2.2]) ∧ Below w.heap.size w w':=by
 have hl:=Hi h.len
 have hle:=h.le
 have HB0:=Hi hB
 clear hB
 obtain ⟨b,off,rfl⟩:∃ b off,a = some ⟨b,off,none⟩:=by
  rcases h.at_ with h1 | ⟨b,off,e,_⟩
  ·omega
  ·exact ⟨b,off,e⟩
 have HS:=Hi hs
 clear hs
 obtain ⟨R,hR⟩:∃ R,R = endB l (n + 2) (p + 3):=⟨_,rfl⟩
 have HQ:=Hi (show blc bS l p = blcR bS l p R from by unfold blc;rw [uh hl,hR])
 have HR:=Hi hR.symm
 clear hR
 have hA:=Hi (fun W (hb:Below w.heap.size w W) (k:Nat) (hk:k ≤ n + 1) => at_ok _ n c cl l k W (h.below hb) (by omega))
 have hT:=Hi (fun W (hb:Below w.heap.size w W) (k:Nat) (hk:k ≤ n + 1) => tq_ok _ n c cl l k W (h.below hb) hn (by omega))
 have hsb:=Hi (Sb.new w (some ⟨b,off,none⟩) n c cl)
 unfold src at hA hT ⊢
 go_enter Tryz.func117,Tryz.ntmps117
 go_wp2_with fail
 obtain ⟨w1,hw1⟩:∃ w1,w1 = w.alloc (.cells #[.slice (some ⟨b,off,none⟩) n c,.bool cl] 113):=⟨_,rfl⟩
 rw [← hw1] at hsb ⊢
 clear hw1
 go_loopg [8] (n + 1) (fun g vi wr => ∃ k fu:Nat,p + 3 ≤ k ∧ k ≤ n ∧ n + 1 ≤ g + k ∧ n + 1 ≤ fu + k ∧ vi = .int .i64 k ∧ Hid (endB l fu k = R) ∧ Sb w wr (some ⟨b,off,none⟩) n c cl)
 case atStart => exact ⟨p + 3,n + 2,by omega,by omega,by omega,by omega,by go_num,HR,uh hsb⟩
 case round =>
  obtain ⟨k,fu,hpk,hk,hg,hf,rfl,hik,hs⟩:=hrel
  obtain ⟨f2,rfl⟩:∃ f2,fu = f2 + 1:=⟨fu - 1,by omega⟩
  have hik':=Hi (show (if tq l k = true then some k
   else if cAt l k = 92 ∧ tq l (k + 1) = true then endB l f2 (k + 4)
   else if soB (cAt l k) = false then none else endB l f2 (k + 1)) = R from uh hik)
  clear hik
  have d0:=hs.c0
  have d1:=hs.c1
  go_wp2_with fail
  refine (uh hT wr hs.bel k (by omega)).mono ?_
  rintro e w2 ⟨rfl,b2⟩
  have hs2:=hs.below b2
  clear hs d0 d1
  have d0:=hs2.c0
  have d1:=hs2.c1
  cases ht:tq l k with
  | true =>
   have hRk:=Hi (show R = some k from by rw [← uh hik',if_pos ht])
   have hkn:k + 2 < n:=by rw [← uh hl];exact tq_len l k ht
   have kc:(k:Int) ≤ (c:Int):=by omega
   have pc:¬ c = p + 3:=by omega
   have HU:=Hi (uh HB0 _ _ _ _ w2 ((row_mid h (p + 3) k hpk (by omega)).below hs2.bel) (by omega) (fun x hx => uh HS x (List.mem_of_mem_drop (List.mem_of_mem_take hx))))
   have HF:=Hi (show blc bS l p = (7,k + 3,bS (insZ l (p + 3) k)) from by rw [uh HQ,uh hRk];rfl)
   clear hik' ht
   go_wp2_with fail
   refine (uh HU).mono ?_
   rintro e w3 ⟨rfl,b3⟩
   go_wp2_with fail
   go_ret3
   exact ⟨by rw [uh HF];rfl,hs2.bel.trans (b3.mono hs2.bel.size)⟩
  | false =>
   rw [ht] at hik'
   go_wp2_with fail
   refine (uh hA w2 hs2.bel k (by omega)).mono ?_
   rintro e w3 ⟨rfl,b3⟩
   have hs3:=hs2.below b3
   clear hs2 d0 d1 ht
   have d0:=hs3.c0
   have d1:=hs3.c1
   obtain ⟨x,hx⟩:∃ x,x = cAt l k:=⟨_,rfl⟩
   rw [← hx] at hik' ⊢
   have Hx:=Hi hx.symm
   clear hx
   by_cases h92:x = 92
   ·subst h92
    have HP:=Hi (show ∀ y,tq l (k + 1) = y → (if y = true then endB l f2 (k + 4) else endB l f2 (k + 1)) = R from fun y hy => by
     have e:=uh hik'
     rw [if_neg (by decide)] at e
     subst hy
     by_cases hy:tq l (k + 1) = true
     ·rw [if_pos ⟨rfl,hy⟩] at e
      rw [if_pos hy]
      exact e
     ·rw [if_neg (fun e => hy e.2),if_neg (show ¬ soB 92 = false by decide)] at e
      rw [if_neg hy]
      exact e)
    have hk1:k < n:=by
     rw [← uh hl]
     exact cAt_so l k (by rw [uh Hx];decide)
    have S:=Hi (fun W => source_ok 92 W)
    rw [show soB 92 = true from by decide] at S
    clear hik' Hx
    go_wp2_with fail
    rw [show ((k:Int) + 1) = ((k + 1:Nat):Int) by omega]
    refine (uh hT w3 hs3.bel (k + 1) (by omega)).mono ?_
    rintro e w4 ⟨rfl,b4⟩
    have hs4:=hs3.below b4
    clear hs3 d0 d1
    have d0:=hs4.c0
    have d1:=hs4.c1
    cases ht:tq l (k + 1) with
    | true =>
     have hkn:k + 1 + 2 < n:=by rw [← uh hl];exact tq_len l (k + 1) ht
     have hik3:=Hi (show endB l f2 (k + 4) = R from by
      have e:=uh HP _ ht
      rw [if_pos rfl] at e
      exact e)
     clear HP ht
     go_wp2_with fail
     go_roundg (gk - 1)
     case rel => exact ⟨k + 4,f2,by omega,by omega,by omega,by omega,by go_num,hik3,hs4⟩
     case measure => omega
    | false =>
     have hik3:=Hi (show endB l f2 (k + 1) = R from by
      have e:=uh HP _ ht
      rw [if_neg (by decide)] at e
      exact e)
     clear HP ht
     go_wp2_with fail
     refine (uh S _).mono ?_
     rintro e w5 ⟨rfl,rfl⟩
     go_wp2_with fail
     go_roundg (gk - 1)
     case rel => exact ⟨k + 1,f2,by omega,by omega,by omega,by omega,by go_num,hik3,hs4⟩
     case measure => omega
   ·have e92:(x == 92) = false:=by simpa using h92
    have hik2:=Hi (show (if soB x = false then none else endB l f2 (k + 1)) = R from by
     have e:=uh hik'
     rw [if_neg (by decide),if_neg (fun e => h92 e.1)] at e
     exact e)
    clear hik'
    go_wp2_with fail
    refine (source_ok x _).mono ?_
    rintro e w5 ⟨rfl,rfl⟩
    cases hsx:soB x with
    | false =>
     have HF:=Hi (show blc bS l p = (1,p,⟨#[]⟩) from by rw [uh HQ,← uh hik2,if_pos hsx];rfl)
     have HB:=Hi (fun W => bad_ok p W)
     clear hik2 Hx hsx
     go_wp2_with fail
     refine (uh HB _).mono ?_
     rintro e w6 ⟨rfl,rfl⟩
     go_wp2_with fail
     go_ret3
     exact ⟨by rw [uh HF];rfl,hs3.bel⟩
    | true =>
     have hkn:k < n:=by rw [← uh hl];exact cAt_so l k (by rw [uh Hx,hsx])
     have hik3:=Hi (show endB l f2 (k + 1) = R from by rw [← uh hik2,if_neg (by rw [hsx];decide)])
     clear hik2 Hx hsx
     go_wp2_with fail
     go_roundg (gk - 1)
     case rel => exact ⟨k + 1,f2,by omega,by omega,by omega,by omega,by go_num,hik3,hs3⟩
     case measure => omega
end Go.Proofs.YtepmbmbnlmbhhaaGreat.lx
namespace Go.Proofs.YtepmbmbnlmbhhaaGreat.sv
open Go.ChangeShapes Go.WideShapes Go.ChangeAt Go.RowKit
open mem
open ints (Hi uh)
theorem jn_snoc (M:List (List Int)) (x:List Int):jn (M ++ [x]) = if M.length = 0 then x else jn M ++ ([10] ++ x):=by
 induction M with
 | nil => rfl
 | cons a M ih =>
  cases M with
  | nil => simp [jn]
  | cons b M =>
   rw [if_neg (by simp)] at ih ⊢
   show a ++ 10 :: jn ((b :: M) ++ [x]) = (a ++ 10 :: jn (b :: M)) ++ ([10] ++ x)
   rw [ih]
   simp
theorem jn_app_len (A B:List (List Int)):(jn A).length ≤ (jn (A ++ B)).length:=by
 induction A with
 | nil => exact Nat.zero_le _
 | cons a A ih =>
  cases A with
  | nil =>
   cases B with
   | nil => exact Nat.le_refl _
   | cons b B => simp [jn]
  | cons a2 A =>
   show (a ++ 10 :: jn (a2 :: A)).length ≤ (a ++ 10 :: jn ((a2 :: A) ++ B)).length
   simp only [List.length_append,List.length_cons] at ih ⊢
   omega
theorem jn_take_len (L:List (List Int)) (k:Nat):(jn (L.take k)).length ≤ (jn L).length:=by
 have:=jn_app_len (L.take k) (L.drop k)
 rw [List.take_append_drop] at this
 exact this
set_option maxHeartbeats 4000000 in
set_option maxRecDepth 4000 in
theorem joined_ok (b off n c:Nat) (L:List (List Int)) (w:World) (h:Lns w b off n c L) (hn:n ≤ 1099511627777) (hm:(jn L).length ≤ 1099511627776) :
  Calls Tryz.prog 159 #[.slice (some ⟨b,off,none⟩) n c] w fun e w' => ∃ v,e = .returned v ∧ w'.ownsRow w.heap.size 21 1 v (jn L).length ((jn L).map (Value.int .i32)) ∧ Below w.heap.size w w':=by
 obtain ⟨i0,hi,hz0,hz1,hz2⟩:=info_parts info32
 have HL:=Hi h.len
 have hle:=h.le
 go_enter Tryz.func159,Tryz.ntmps159
 go_wp2_with fail
 go_loopw [3,8] (fun v i wr => ∃ k:Nat,k ≤ n ∧ i = .int .i64 k ∧ wr.ownsRow w.heap.size 21 1 v (jn (L.take k)).length ((jn (L.take k)).map (Value.int .i32)) ∧ Below w.heap.size w wr) (fun _ i _ => n - (intOf i).toNat)
 case atStart => exact ⟨0,Nat.zero_le _,rfl,World.ownsRow_nil _ _ _ _,Below.refl _ _⟩
 case round =>
  obtain ⟨k,hk,rfl,hown,hb⟩:=hrel
  by_cases hlt:k < n
  ·obtain ⟨ai,ci,h1,h2,_⟩:=h.at_ k hlt
   have hcl:=(hb.cell (p:=⟨b,off + k,none⟩) h.lt).trans h1
   have hkl:k < L.length:=by rw [uh HL];exact hlt
   have hsn:=Hi (show jn (L.take (k + 1)) = if k = 0 then L.getD k [] else jn (L.take k) ++ ([10] ++ L.getD k []) from by
    rw [take_snoc' L k hkl,jn_snoc,List.length_take,Nat.min_eq_left (Nat.le_of_lt hkl)])
   have hlen:=jn_take_len L (k + 1)
   have H2:=Hi h2
   have i1:(k:Int) < (n:Int):=by omega
   have hbs:=hb.size
   obtain ⟨x,hx⟩:∃ x,x = L.getD k []:=⟨_,rfl⟩
   rw [← hx] at h1 hcl hsn H2
   obtain ⟨M,hM⟩:∃ M,M = jn (L.take k):=⟨_,rfl⟩
   rw [← hM] at hsn hown
   have hM0:=Hi (show k = 0 → M = [] from fun e => by rw [hM,e];rfl)
   clear hx h1 h2 hM hkl
   obtain ⟨aB,cB,rfl⟩:=lx.own_shp hown
   by_cases h0:k = 0
   ·have hsn2:=Hi (show jn (L.take (k + 1)) = M ++ x from by rw [uh hsn,if_pos h0,uh hM0 h0];rfl)
    rw [uh hsn2,List.length_append] at hlen
    clear hsn hM0
    subst h0
    rw [Nat.add_zero] at hcl
    go_wp2_with (at_builtin;refine lx.append_row _ rfl _ _ 109 rfl w.heap.size 21 i0 .i32 4 Tryz.underlying109 hi hz0 hz1 hz2 _ _ _ rfl hown _ _ _ x rfl ((uh H2).below hb) (by unfold maxLen;omega) (by omega) (by omega) ?_;intro v' wC hown' hbC)
    refine ⟨⟨0 + 1,by omega,by go_num,?_,hb.trans hbC⟩,by simp only [intOf];omega⟩
    rw [uh hsn2,List.length_append,List.map_append]
    exact hown'
   ·have hsn2:=Hi (show jn (L.take (k + 1)) = (M ++ [10]) ++ x from by rw [uh hsn,if_neg h0];simp)
    rw [uh hsn2,List.length_append,List.length_append] at hlen
    simp only [List.length_cons,List.length_nil] at hlen
    have k0:(0:Int) < (k:Int):=by omega
    clear hsn hM0
    go_wp2_with (first
     | (at_builtin;refine lx.append_one _ rfl _ _ 109 rfl w.heap.size 21 i0 .i32 4 Tryz.underlying109 hi hz0 hz1 hz2 _ _ _ rfl hown _ rfl (by unfold maxLen;omega) (by omega) (by omega) ?_;intro v' wC hown' hbC;obtain ⟨aC,cC,rfl⟩:=lx.own_shp hown';have hbs2:=(hb.trans hbC).size)
     | (at_builtin;refine lx.append_row _ rfl _ _ 109 rfl w.heap.size 21 i0 .i32 4 Tryz.underlying109 hi hz0 hz1 hz2 _ _ _ rfl hown' _ _ _ x rfl ((uh H2).below (hb.trans hbC)) (by unfold maxLen;omega) (by omega) (by omega) ?_;intro v2 wD hown2 hbD))
    refine ⟨⟨k + 1,by omega,by go_num,?_,(hb.trans hbC).trans hbD⟩,by simp only [intOf];omega⟩
    rw [uh hsn2,List.length_append,List.length_append,List.map_append,List.map_append]
    exact hown2
  ·obtain rfl:k = n:=by omega
   have e:L.take k = L:=List.take_of_length_le (by rw [uh HL];omega)
   rw [e] at hown
   clear e
   go_wp2_with fail
   go_ret
   exact ⟨_,rfl,hown,hb⟩
def frm (L:List (List Int)):Nat:=(L.takeWhile blk).length
def cmI (L:List (List Int)):Nat:=(max (lsI (L.drop 1)) 0).toNat
def cutF (f c:Nat) (M:List (List Int)):List (List Int):=if f = 0 then cutL c M else M.map (List.drop c)
def dd (L:List (List Int)):List (List Int):=cutF (frm L) (cmI L) (trm L)
theorem cutF_len (f c:Nat) (M:List (List Int)):(cutF f c M).length = M.length:=by
 unfold cutF
 split
 ·cases M <;> simp [cutL]
 ·simp
theorem cutF_get (f c:Nat) (M:List (List Int)) (i:Nat) (h:i < M.length):(cutF f c M).getD i [] = if f + i = 0 then M.getD i [] else (M.getD i []).drop c:=by
 unfold cutF
 by_cases hf:f = 0
 ·rw [if_pos hf]
  cases M with
  | nil => simp at h
  | cons x M =>
   cases i with
   | zero => simp [cutL,hf]
   | succ i =>
    rw [if_neg (by omega)]
    have h2:i < M.length:=by simpa using h
    simp [cutL,List.getD,h2]
 ·rw [if_neg hf,if_neg (by omega)]
  simp [List.getD,h]
theorem frm_stop:∀ (L:List (List Int)) (f:Nat),f ≤ L.length → (∀ j,j < f → blk (L.getD j []) = true) → (f < L.length → blk (L.getD f []) = false) → frm L = f
 | [],f,h,_,_ => by simp at h;subst h;rfl
 | x :: r,0,_,_,h => by
  have hx:blk x = false:=by simpa using h (by simp)
  unfold frm
  rw [List.takeWhile_cons,hx]
  rfl
 | x :: r,f + 1,h,h1,h2 => by
  have hx:blk x = true:=by simpa using h1 0 (by omega)
  have e:frm (x :: r) = frm r + 1:=by unfold frm;rw [List.takeWhile_cons,hx];simp
  rw [e,frm_stop r f (by simp at h;omega) (fun j hj => by simpa using h1 (j + 1) (by omega)) (fun hf => by simpa using h2 (by simp;omega))]
theorem trm_cut (L:List (List Int)) (f t:Nat) (hft:f ≤ t) (ht:t ≤ L.length) (h1:∀ j,j < f → blk (L.getD j []) = true) (h2:f < t → blk (L.getD f []) = false)
  (h3:∀ j,t ≤ j → j < L.length → blk (L.getD j []) = true) (h4:f < t → blk (L.getD (t - 1) []) = false):trm L = (L.drop f).take (t - f):=by
 have hA:∀ x ∈ L.take f,blk x = true:=fun x hx => by
  obtain ⟨i,hi,rfl⟩:=List.mem_iff_getElem.1 hx
  have hi2:i < f ∧ i < L.length:=by simp at hi;omega
  have:=h1 i hi2.1
  simpa [List.getD,hi2.2] using this
 have hB:∀ x ∈ L.drop t,blk x = true:=fun x hx => by
  obtain ⟨i,hi,rfl⟩:=List.mem_iff_getElem.1 hx
  have hi2:t + i < L.length:=by simp at hi;omega
  have:=h3 (t + i) (by omega) hi2
  simpa [List.getD,hi2] using this
 have e:L = L.take f ++ (L.drop f).take (t - f) ++ L.drop t:=by
  have e1:=List.take_append_drop f L
  have e2:=List.take_append_drop (t - f) (L.drop f)
  rw [List.drop_drop,show f + (t - f) = t by omega] at e2
  rw [List.append_assoc,e2,e1]
 by_cases hlt:f < t
 ·conv => lhs;rw [e]
  have hfl:f < L.length:=by omega
  have ht1:t - 1 < L.length:=by omega
  refine trm_mid hA hB ⟨L.getD f [],(L.drop (f + 1)).take (t - f - 1),?_,h2 hlt⟩ ⟨L.getD (t - 1) [],(L.drop f).take (t - f - 1),?_,h4 hlt⟩
  ·rw [List.drop_eq_getElem_cons hfl]
   conv => lhs;rw [show t - f = (t - f - 1) + 1 by omega,List.take_succ_cons]
   simp [List.getD,hfl]
  ·conv => lhs;rw [show t - f = (t - f - 1) + 1 by omega]
   rw [List.take_add_one]
   congr 1
   rw [List.getElem?_drop,show f + (t - f - 1) = t - 1 by omega]
   simp [List.getD,ht1]
 ·have hE:t = f:=by omega
  subst hE
  have hall:∀ x ∈ L,blk x = true:=fun x hx => by
   rw [← List.take_append_drop t L] at hx
   rcases List.mem_append.1 hx with h5 | h5
   ·exact hA x h5
   ·exact hB x h5
  unfold trm
  rw [dropWhile_all hall]
  simp
theorem cmI_eq (L:List (List Int)):((cmI L:Nat):Int) = max (lsI (L.drop 1)) 0:=by
 unfold cmI
 omega
theorem lst_le:∀ (L:List (List Int)) (m N:Nat),lst L = some m → (∀ i,(L.getD i []).length ≤ N) → m ≤ N
 | [],m,N,h,_ => by cases h
 | x :: L,m,N,h,hN => by
  have h1:=(lst_some h).1
  obtain ⟨y,hy,_,e⟩:=h1
  obtain ⟨i,hi,rfl⟩:=List.mem_iff_getElem.1 hy
  have:=hN i
  have e2:(x :: L).getD i [] = (x :: L)[i]:=by rw [List.getD,List.getElem?_eq_getElem hi];rfl
  rw [e2] at this
  have:=ind_le ((x :: L)[i])
  omega
theorem cmI_le (L:List (List Int)) (N:Nat) (h:∀ i,(L.getD i []).length ≤ N):cmI L ≤ N:=by
 unfold cmI lsI
 cases e:lst (L.drop 1) with
 | none => simp only;omega
 | some m =>
  have:=lst_le (L.drop 1) m N e (fun i => by have:=h (i + 1);simpa [List.getD] using this)
  simp only
  omega
theorem Lns.tail {w:World} {b n c:Nat} {L:List (List Int)} (h:Lns w b 0 n c L):Lns w b 1 (n - 1) (c - 1) (L.drop 1):=by
 refine ⟨by rw [List.length_drop,h.len],by have:=h.le;omega,h.lt,fun i hi => ?_⟩
 obtain ⟨ai,ci,h1,h2,h3⟩:=h.at_ (1 + i) (by omega)
 have e:(L.drop 1).getD i [] = L.getD (1 + i) []:=by simp [List.getD,Nat.add_comm]
 rw [e]
 exact ⟨ai,ci,by simpa using h1,h2,h3⟩
theorem Lns.nil0 {w:World} {b off:Nat} (h:b < w.heap.size):Lns w b off 0 0 []:=⟨rfl,Nat.le_refl _,h,fun i hi => by omega⟩
set_option maxHeartbeats 1000000 in
theorem common_ok (b n c:Nat) (L:List (List Int)) (w:World) (h:Lns w b 0 n c L) (h0:0 < n) (hn:n ≤ 9223372036854775806) (hm:∀ i,(L.getD i []).length ≤ 1099511627776) :
  Calls Tryz.prog 174 #[.slice (some ⟨b,0,none⟩) n c] w fun e w' => e = .returned (.int .i64 (cmI L:Nat)) ∧ Below w.heap.size w w':=by
 have hle:=h.le
 have hm1:∀ i,((L.drop 1).getD i []).length ≤ 1099511627776:=fun i => by have:=hm (i + 1);simpa [List.getD] using this
 rw [cmI_eq]
 by_cases hc:c = 1
 ·subst hc
  have hn1:n = 1:=by omega
  subst hn1
  have hd:L.drop 1 = []:=List.drop_eq_nil_of_le (by rw [h.len];omega)
  have I:=Hi (least_ok b 0 0 0 (L.drop 1) w (by rw [hd];exact Lns.nil0 h.lt) (by omega) hm1)
  clear hm1 hm hd
  generalize max (lsI (L.drop 1)) 0 = M at *
  go_enter Tryz.func174,Tryz.ntmps174
  go_wp2_with fail
  refine (uh I).mono ?_
  rintro e w1 ⟨rfl,hb⟩
  clear I
  go_wp2
  go_ret
  exact ⟨rfl,hb⟩
 ·have I:=Hi (least_ok b 1 (n - 1) (c - 1) (L.drop 1) w h.tail (by omega) hm1)
  have c1:¬ c = 1:=hc
  have n1:¬ ((n:Int) = 0):=by omega
  have i1:(1:Int) ≤ (n:Int):=by omega
  have i2:(n:Int) ≤ (c:Int):=by omega
  clear hm1 hm
  generalize max (lsI (L.drop 1)) 0 = M at *
  go_enter Tryz.func174,Tryz.ntmps174
  go_wp2_with fail
  refine (uh I).mono ?_
  rintro e w1 ⟨rfl,hb⟩
  clear I
  go_wp2
  go_ret
  exact ⟨rfl,hb⟩
theorem newLn_ok (a:Option Addr) (n c:Nat) (l:List Int) (w:World) (h:Row .i32 w a n c l) (hn:4 * n ≤ 281474976710656) :
  Calls Tryz.prog 175 #[.slice a n c] w fun e w' => e = .returned (.slice (some ⟨w.heap.size,0,none⟩) n n) ∧
   w'.ownsRow w.heap.size 21 1 (.slice (some ⟨w.heap.size,0,none⟩) n n) n (l.map (Value.int .i32)) ∧ Below w.heap.size w w':=by
 obtain ⟨i0,hi,hz0,hz1,hz2⟩:=info_parts info32
 have hl:(l.map (Value.int .i32)).length = n:=by simp [h.len]
 go_enter Tryz.func175,Tryz.ntmps175
 go_wp2_with (first
  | (refine wpList_make_full _ rfl _ _ 109 rfl w.heap.size 21 i0 (.int .i32 0) 1 Tryz.underlying109 hi hz0 hz1 .i64 .i64 _ _ n rfl rfl rfl rfl (by rw [hz2];omega) (by unfold maxLen;omega) (Nat.le_refl _) ?_;intro w1 hown hgrow;have hg1:=belowNone hgrow;have hr1:=h.below hg1;obtain ⟨cur,hcur,hcs⟩:=own_block hown)
  | (refine wpList_copy_splice rfl (.tmp 7) (.tmp 8) 109 109 rfl 21 Tryz.underlying109 size32 _ _ n n n c rfl rfl w.heap.size 0 cur.toList 21 hcur (l.map (Value.int .i32)) (by rw [hl];exact (Nat.min_self n).symm) (fun hp => ⟨rfl,row_some hr1 (by rw [hl] at hp;exact hp)⟩) (by rw [hl];simp;omega) (ints_oneCell _ _) w.heap.size w hg1 (Nat.le_refl _) ?_;intro w2 hrow2 hb2))
 go_ret
 refine ⟨rfl,?_,hb2⟩
 have:=hrow2.out
 rw [splice_all _ _ (by rw [hl];simpa using hcs)] at this
 exact ⟨by simp [h.len],.inr ⟨w.heap.size,n,_,rfl,Nat.le_refl _,this,Nat.le_refl _,by unfold maxLen;omega,by simp [h.len],by rw [Nat.mul_one];exact List.take_of_length_le (by simp [h.len])⟩⟩
theorem Lns.vals {w:World} {b off n c:Nat} {L:List (List Int)} (h:Lns w b off n c L):∃ vs:List Value,vs.length = n ∧ ∀ i,i < n → w.cell? ⟨b,off + i,none⟩ = some (vs.getD i undef) ∧ ∃ bi oi ci,vs.getD i undef = .slice (some ⟨bi,oi,none⟩) (L.getD i []).length ci ∧ Row .i32 w (some ⟨bi,oi,none⟩) (L.getD i []).length ci (L.getD i []):=by
 refine ⟨(List.range n).map (fun i => (w.cell? ⟨b,off + i,none⟩).getD undef),by simp,fun i hi => ?_⟩
 obtain ⟨ai,ci,h1,h2,bi,oi,rfl⟩:=h.at_ i hi
 have e:((List.range n).map (fun i => (w.cell? ⟨b,off + i,none⟩).getD undef)).getD i undef = .slice (some ⟨bi,oi,none⟩) (L.getD i []).length ci:=by
  simp [List.getD,hi,h1]
 rw [e]
 exact ⟨h1,bi,oi,ci,rfl,h2⟩
theorem Row.other {k:IntKind} {w:World} {q n c g i:Nat} {l:List Int} {v:Value} (h:Row k w (some ⟨q,0,none⟩) n c l) (hq:q ≠ g):Row k (w.setCell ⟨g,i,none⟩ v) (some ⟨q,0,none⟩) n c l:=by
 refine ⟨h.len,h.le,h.nil,?_⟩
 rcases h.at_ with h0 | ⟨b',off',e,hb,hc⟩
 ·exact .inl h0
 ·simp only [Option.some.injEq,Addr.mk.injEq,and_true] at e
  obtain ⟨rfl,rfl⟩:=e
  refine .inr ⟨q,0,rfl,by simpa using hb,fun j hj => ?_⟩
  rw [← hc j hj]
  exact World.cell?_of_block (Below.heap_setCell _ _ _ _ hq)
theorem infoSS:(Tryz.prog.info? 109).map (fun i => (i.zero,i.size,i.bytes)) = some (some (.slice none 0 0),1,24):=by kernel_rfl
theorem sizeSS:(Tryz.prog.info? 109).map (·.size) = some 1:=by kernel_rfl
structure DdI (w wr:World) (G m k:Nat) (cs:List Value) (D:List (List Int)):Prop where
 own:∃ xs,wr.ownsRow w.heap.size 109 1 (.slice (some ⟨G,0,none⟩) m m) m xs ∧ (∀ j,j < k → ∃ gj,gj ≠ G ∧ xs.getD j undef = lineVal gj (D.getD j []) ∧ Row .i32 wr (some ⟨gj,0,none⟩) (D.getD j []).length (D.getD j []).length (D.getD j [])) ∧ (∀ j,k ≤ j → j < m → xs.getD j undef = cs.getD j undef)
 bel:Below w.heap.size w wr
theorem DdI.cell {w wr:World} {G m k:Nat} {cs:List Value} {D:List (List Int)} (h:DdI w wr G m k cs D) (hk:k < m):wr.cell? ⟨G,k,none⟩ = some (cs.getD k undef):=by
 obtain ⟨xs,h1,h2,h3⟩:=h.own
 have hl:xs.length = m:=by have:=h1.1;omega
 rw [h1.cellAt k (by omega),← h3 k (Nat.le_refl _) hk]
 simp [List.getD,show k < xs.length by omega]
theorem DdI.step {w wr w4:World} {G m k p:Nat} {cs:List Value} {D:List (List Int)} {x:List Int} (h:DdI w wr G m k cs D) (hk:k < m) (hb:Below wr.heap.size wr w4)
  (hln:w4.ownsRow wr.heap.size 21 1 (.slice (some ⟨wr.heap.size,0,none⟩) p p) p (x.map (Value.int .i32))) (hx:D.getD k [] = x) :
  (∃ v,w4.cell? ⟨G,k,none⟩ = some v) ∧ w4.frozen? ⟨G,k,none⟩ = false ∧ DdI w (w4.setCell ⟨G,k,none⟩ (.slice (some ⟨wr.heap.size,0,none⟩) p p)) G m (k + 1) cs D:=by
 obtain ⟨xs,h1,h2,h3⟩:=h.own
 have hl:xs.length = m:=by have:=h1.1;omega
 have h4:=own_below h1 hb
 have hG:=h1.lt G rfl
 have hp:p = x.length:=by have:=hln.1;simp at this;exact this.symm
 refine ⟨⟨_,by rw [h4.cellAt k (by omega),List.getElem?_eq_getElem (by omega)]⟩,h4.frozenAt k,⟨⟨_,(h4.stored k _).1,fun j hj => ?_,fun j hj hj2 => ?_⟩,(h.bel.trans (hb.mono h.bel.size)).setCell hG.1 _⟩⟩
 ·by_cases e:j = k
  ·subst e
   refine ⟨wr.heap.size,by omega,?_,?_⟩
   ·rw [hx]
    unfold lineVal
    rw [hp]
    simp [List.getD,show j < xs.length by omega]
   ·obtain ⟨a,cp,e1,hrow⟩:=own_row hln
    simp only [Value.slice.injEq] at e1
    obtain ⟨rfl,_,rfl⟩:=e1
    rw [hx,← hp]
    exact Row.other hrow (by omega)
  ·obtain ⟨gj,g1,g2,g3⟩:=h2 j (by omega)
   refine ⟨gj,g1,?_,Row.other (g3.below hb) g1⟩
   rw [← g2]
   simp [List.getD,show ¬ k = j from fun e' => e e'.symm]
 ·rw [← h3 j (by omega) hj2]
  simp [List.getD,show ¬ k = j by omega]
theorem DdI.done {w wr:World} {G m:Nat} {cs:List Value} {D:List (List Int)} (h:DdI w wr G m m cs D) (hD:D.length = m):Lns wr G 0 m m D:=by
 obtain ⟨xs,h1,h2,h3⟩:=h.own
 have hl:xs.length = m:=by have:=h1.1;omega
 refine ⟨hD,Nat.le_refl _,(h1.lt G rfl).2,fun i hi => ?_⟩
 obtain ⟨gj,g1,g2,g3⟩:=h2 i hi
 refine ⟨_,_,?_,g3,_,_,rfl⟩
 rw [Nat.zero_add,h1.cellAt i (by omega),List.getElem?_eq_getElem (by omega)]
 have:xs.getD i undef = xs[i]'(by omega):=by simp [List.getD,show i < xs.length by omega]
 rw [← this,g2]
 rfl
set_option maxHeartbeats 8000000 in
set_option maxRecDepth 4000 in
theorem dedent_ok (b n c:Nat) (L:List (List Int)) (w:World) (h:Lns w b 0 n c L) (h0:0 < n) (hn:n ≤ 1099511627777) (hm:∀ i,(L.getD i []).length ≤ 1099511627776) :
  Calls Tryz.prog 160 #[.slice (some ⟨b,0,none⟩) n c] w fun e w' => ∃ g,e = .returned (.slice (some ⟨g,0,none⟩) (dd L).length (dd L).length) ∧ Lns w' g 0 (dd L).length (dd L).length (dd L) ∧ Below w.heap.size w w':=by
 obtain ⟨i0,hi,hz0,hz1,hz2⟩:=info_parts infoSS
 have HL:=Hi h.len
 have hle:=h.le
 have hB:=Hi (show ∀ k,k < n → ∃ ai ci,w.cell? ⟨b,k,none⟩ = some (.slice ai (L.getD k []).length ci) ∧ Calls Tryz.prog 173 #[.slice ai (L.getD k []).length ci] w (fun e w' => e = .returned (.bool (blk (L.getD k []))) ∧ w = w') from fun k hk => by
  obtain ⟨ai,ci,h1,h2,_⟩:=h.at_ k hk
  rw [Nat.zero_add] at h1
  exact ⟨ai,ci,h1,(blank_ok ai _ ci _ w h2 (by have:=hm k;omega)).mono (fun e w' he => ⟨he.1,he.2.symm⟩)⟩)
 have hC:=Hi (common_ok b n c L w h h0 (by omega) hm)
 have hcm:=cmI_le L _ hm
 obtain ⟨cm,hcme⟩:∃ cm,cm = cmI L:=⟨_,rfl⟩
 rw [← hcme] at hC hcm
 have HCM:=Hi hcme
 clear hcme
 obtain ⟨vs,hvl,hvs⟩:=h.vals
 have HV:=Hi hvs
 have HVL:=Hi hvl
 have hblt:=h.lt
 clear hvs hvl
 go_enter Tryz.func160,Tryz.ntmps160
 go_wp2_with fail
 go_loopw [3] (fun i wr => ∃ k:Nat,k ≤ n ∧ i = .int .i64 k ∧ w = wr ∧ Hid (∀ j,j < k → blk (L.getD j []) = true)) (fun i _ => n - (intOf i).toNat)
 case atStart => exact ⟨0,Nat.zero_le _,rfl,rfl,Hi (fun j hj => by omega)⟩
 case round =>
  obtain ⟨f,hf,rfl,rfl,hF⟩:=hrel
  by_cases hlt:f < n
  ·obtain ⟨ai,ci,h1,h2⟩:=(uh hB) f hlt
   have H2:=Hi h2
   clear h2
   have i1:(f:Int) < (n:Int):=by omega
   cases hb:blk (L.getD f [])
   ·rw [hb] at H2
    have Hb:=Hi hb
    clear hb
    go_wp2_with fail
    refine (uh H2).mono ?_
    rintro e w1 ⟨rfl,rfl⟩
    clear H2 h1
    go_wp2_with fail
    go_loopw [4] (fun i wr => ∃ k:Nat,f < k ∧ k ≤ n ∧ i = .int .i64 k ∧ w = wr ∧ Hid (∀ j,k ≤ j → j < n → blk (L.getD j []) = true)) (fun i _ => (intOf i).toNat)
    case atStart => exact ⟨n,hlt,Nat.le_refl _,rfl,rfl,Hi (fun j hj hj2 => by omega)⟩
    case round =>
     obtain ⟨t,hft,ht,rfl,rfl,hT⟩:=hrel
     obtain ⟨s,rfl⟩:∃ s,t = s + 1:=⟨t - 1,by omega⟩
     obtain ⟨ai,ci,h1,h2⟩:=(uh hB) s (by omega)
     have H2:=Hi h2
     clear h2
     have es:((s + 1:Nat):Int) = (s:Int) + 1:=by omega
     have es2:((s + 1:Nat):Int) - 1 = (s:Int):=by omega
     have i2:(f:Int) < (s:Int) + 1:=by omega
     have i3:(s:Int) < (n:Int):=by omega
     cases hb2:blk (L.getD s [])
     ·rw [hb2] at H2
      have Hb2:=Hi hb2
      clear hb2
      go_wp2_with fail
      refine (uh H2).mono ?_
      rintro e w1 ⟨rfl,rfl⟩
      clear H2 h1
      go_wp2_with fail
      refine (uh hC).mono ?_
      rintro e w1 ⟨rfl,b1⟩
      clear hC
      obtain ⟨m,hm0⟩:∃ m:Nat,s + 1 = f + m:=⟨s + 1 - f,by omega⟩
      have hmp:0 < m:=by omega
      have i4:(s:Int) + 1 - (f:Int) = (m:Int):=by omega
      have i5:(f:Int) ≤ (s:Int) + 1:=by omega
      have i6:(s:Int) + 1 ≤ (c:Int):=by omega
      have hB1:=b1.size
      have hcsl:((vs.drop f).take m).length = m:=by rw [List.length_take,List.length_drop,uh HVL];omega
      have HCS:=Hi (fun (W:World) (hb:Below w.heap.size w W) (j:Nat) (u:Value) (hu:((vs.drop f).take m)[j]? = some u) => show W.cell? ((⟨b,f,none⟩:Addr).add j) = some u from by
       have hj:j < m:=by
        rcases Nat.lt_or_ge j m with h | h
        ·exact h
        ·rw [List.getElem?_eq_none (by rw [hcsl];exact h)] at hu;cases hu
       have hc1:=((uh HV) (f + j) (by omega)).1
       rw [List.getElem?_take,if_pos hj,List.getElem?_drop] at hu
       have e2:vs.getD (f + j) undef = u:=by rw [List.getD,hu];rfl
       rw [e2,Nat.zero_add] at hc1
       have:=(hb.cell (p:=⟨b,f + j,none⟩) hblt).trans hc1
       unfold Addr.add
       split
       ·rename_i hj0
        subst hj0
        simpa using this
       ·exact this)
      have HON:=Hi (show ∀ v ∈ (vs.drop f).take m,v.oneCell' = true from fun v hv => by
       obtain ⟨j,hj,rfl⟩:=List.mem_iff_getElem.1 hv
       have hj2:j < m:=by rw [hcsl] at hj;exact hj
       obtain ⟨_,bi,oi,ci,e1,_⟩:=(uh HV) (f + j) (by omega)
       have e2:((vs.drop f).take m)[j] = vs.getD (f + j) undef:=by
        have hjv:f + j < vs.length:=by rw [uh HVL];omega
        simp [List.getD,hjv]
       rw [e2,e1]
       rfl)
      have Hcsl:=Hi hcsl
      clear hcsl
      obtain ⟨cs,hcs⟩:∃ cs,cs = (vs.drop f).take m:=⟨_,rfl⟩
      rw [← hcs] at HCS HON Hcsl
      have Hcs:=Hi hcs
      clear hcs
      go_wp2_with (first
       | (refine wpList_make_full _ rfl _ _ 183 rfl w.heap.size 109 i0 (.slice none 0 0) 1 Tryz.underlying183 hi hz0 hz1 .i64 .i64 _ _ m rfl rfl (by omega) (by omega) (by rw [hz2];omega) (by unfold maxLen;omega) hB1 ?_;intro w2 hown hgrow;have hg1:=b1.trans ((belowNone hgrow).mono hB1);obtain ⟨cur,hcur,hcz⟩:=own_block hown)
       | (refine wpList_copy_splice rfl _ _ 183 183 rfl 109 Tryz.underlying183 sizeSS _ _ m m m m rfl rfl w1.heap.size 0 cur.toList 109 hcur cs (by rw [uh Hcsl];exact (Nat.min_self m).symm) (fun hp => ⟨rfl,_,rfl,(uh HCS) _ hg1⟩) (by rw [uh Hcsl];simp;omega) (uh HON) w.heap.size w hg1 hB1 ?_;intro w3 hrow3 hb3))
      have Hm0:=Hi hm0
      have hB3:=hb3.size
      have HD0:=Hi (show frm L = f ∧ trm L = (L.drop f).take m from ⟨frm_stop L f (by rw [uh HL];exact hf) (uh hF) (fun _ => uh Hb),by
       have:=trm_cut L f (s + 1) (by omega) (by rw [uh HL];exact ht) (uh hF) (fun _ => uh Hb) (fun j hj hj2 => uh hT j hj (by rw [uh HL] at hj2;exact hj2)) (fun _ => uh Hb2)
       rw [this]
       congr 1
       omega⟩)
      have HDl:=Hi (show (dd L).length = m from by
       unfold dd
       rw [cutF_len,(uh HD0).2,List.length_take,List.length_drop,uh HL]
       omega)
      have HD:=Hi (show ∀ k,k < m → (dd L).getD k [] = if f + k = 0 then L.getD (f + k) [] else (L.getD (f + k) []).drop cm from fun k hk => by
       have hk2:k < (trm L).length:=by rw [(uh HD0).2,List.length_take,List.length_drop,uh HL];omega
       have e1:(trm L).getD k [] = L.getD (f + k) []:=by
        rw [(uh HD0).2]
        simp [List.getD,hk]
       unfold dd
       rw [cutF_get _ _ _ _ hk2,(uh HD0).1,← uh HCM,e1])
      have hI0:DdI w w3 w1.heap.size m 0 cs (dd L):=by
       refine ⟨⟨cs,?_,fun j hj => by omega,fun j _ _ => rfl⟩,hb3⟩
       have:=hrow3.out
       rw [splice_all _ _ (by rw [uh Hcsl];simpa using hcz)] at this
       exact ⟨by rw [uh Hcsl];omega,.inr ⟨w1.heap.size,m,_,rfl,hB1,this,Nat.le_refl _,by unfold maxLen;omega,by simp [uh Hcsl],by rw [Nat.mul_one];exact List.take_of_length_le (by simp [uh Hcsl])⟩⟩
      obtain ⟨G,hG⟩:∃ G,G = w1.heap.size:=⟨_,rfl⟩
      have hGb:w.heap.size ≤ G:=by omega
      rw [← hG] at hI0 ⊢
      clear hG
      have HI0:=Hi hI0
      clear hI0 hrow3 hcur hcz hown hgrow hg1 hb3 HCS HON hB3 HD0 hT Hb2 hF Hb hm0
      go_loopw [52] (fun i wr => ∃ k:Nat,k ≤ m ∧ i = .int .i64 k ∧ DdI w wr G m k cs (dd L)) (fun i _ => m - (intOf i).toNat)
      case atStart => exact ⟨0,Nat.zero_le _,rfl,uh HI0⟩
      case round =>
       obtain ⟨k,hk,rfl,hI⟩:=hrel
       by_cases hkm:k < m
       ·have hfk:f + k < n:=by have:=uh Hm0;omega
        obtain ⟨_,bi,oi,ci,e1,hr⟩:=(uh HV) (f + k) hfk
        have c1:=hI.cell hkm
        have e2:cs.getD k undef = vs.getD (f + k) undef:=by
         rw [uh Hcs]
         simp [List.getD,hkm]
        rw [e2,e1] at c1
        have hdk:=Hi ((uh HD) k hkm)
        have hq:=hm (f + k)
        have hrb:=hr.below hI.bel
        have hrl:=hr.len
        obtain ⟨lk,hlk⟩:∃ lk,lk = L.getD (f + k) []:=⟨_,rfl⟩
        rw [← hlk] at c1 hdk hq hr hrb hrl
        obtain ⟨q,hqe⟩:∃ q,q = lk.length:=⟨_,rfl⟩
        rw [← hqe] at c1 hq hr hrb hrl
        have Hq:=Hi hqe
        have hrle:=hr.le
        have HR:=Hi hrb
        have i7:(k:Int) < (m:Int):=by omega
        clear e1 e2 hr hrl hlk hqe hrb hfk
        have zq:(0:Int) ≤ (q:Int):=by omega
        have qc:(q:Int) ≤ (ci:Int):=by omega
        by_cases hfk0:f + k = 0
        ·have hfb:((f:Int) + (k:Int) == 0) = true:=by simp;omega
         have hdd:=Hi (show (dd L).getD k [] = lk from by rw [uh hdk,if_pos hfk0])
         clear hdk hfk0
         by_cases hq0:q = 0
         ·subst hq0
          have hl0:lk = []:=List.eq_nil_of_length_eq_zero (uh Hq).symm
          have N:=Hi (newLn_ok (some ⟨bi,oi,none⟩) 0 0 [] wr (⟨rfl,Nat.le_refl _,(fun e => by cases e),.inl rfl⟩) (by omega))
          have HX:=Hi (show (dd L).getD k [] = [] from by rw [uh hdd,hl0])
          clear HR
          go_wp2_with fail
          refine (uh N).mono ?_
          rintro e w4 ⟨rfl,hln,hb4⟩
          clear N
          obtain ⟨⟨u4v,c4⟩,f4,hnx⟩:=hI.step hkm hb4 hln (uh HX)
          have HN:=Hi hnx
          clear hnx hln hb4 hI HX c1
          go_wp2
          go_roundw
          case rel => exact ⟨k + 1,by omega,by go_num,uh HN⟩
          case measure => first | (simp [intOf];omega) | simp [intOf]
         ·have j1:¬ q = 0:=hq0
          have N:=Hi (newLn_ok (some ⟨bi,oi,none⟩) q q lk wr (⟨(uh HR).len,Nat.le_refl _,(fun e => by cases e),(uh HR).at_⟩) (by omega))
          have HX:=Hi (show (dd L).getD k [] = lk from uh hdd)
          clear HR
          go_wp2_with fail
          refine (uh N).mono ?_
          rintro e w4 ⟨rfl,hln,hb4⟩
          clear N
          obtain ⟨⟨u4v,c4⟩,f4,hnx⟩:=hI.step hkm hb4 hln (uh HX)
          have HN:=Hi hnx
          clear hnx hln hb4 hI HX c1
          go_wp2
          go_roundw
          case rel => exact ⟨k + 1,by omega,by go_num,uh HN⟩
          case measure => first | (simp [intOf];omega) | simp [intOf]
        ·have hfb:((f:Int) + (k:Int) == 0) = false:=by simp;omega
         by_cases hcq:cm ≤ q
         ·have hdd:=Hi (show (dd L).getD k [] = lk.drop cm from by rw [uh hdk,if_neg hfk0])
          clear hdk hfk0
          by_cases hceq:cm = q
          ·have hl0:=Hi (show lk.drop cm = [] from List.drop_eq_nil_of_le (by rw [← uh Hq];omega))
           subst hceq
           have N:=Hi (newLn_ok (some ⟨bi,oi,none⟩) 0 0 [] wr (⟨rfl,Nat.le_refl _,(fun e => by cases e),.inl rfl⟩) (by omega))
           have HX:=Hi (show (dd L).getD k [] = [] from by rw [uh hdd,uh hl0])
           clear HR
           go_wp2_with fail
           refine (uh N).mono ?_
           rintro e w4 ⟨rfl,hln,hb4⟩
           clear N
           obtain ⟨⟨u4v,c4⟩,f4,hnx⟩:=hI.step hkm hb4 hln (uh HX)
           have HN:=Hi hnx
           clear hnx hln hb4 hI HX c1
           go_wp2
           go_roundw
           case rel => exact ⟨k + 1,by omega,by go_num,uh HN⟩
           case measure => first | (simp [intOf];omega) | simp [intOf]
          ·have j1:cm < q:=by omega
           have mj:(cm:Int) < (q:Int):=by omega
           have mi:min (cm:Int) (q:Int) = (cm:Int):=by omega
           have j2:¬ q - cm = 0:=by omega
           have hrw:=Hi (show Row .i32 wr (some ⟨bi,oi + cm,none⟩) (q - cm) (q - cm) (lk.drop cm) from by
            have:=lx.row_mid (uh HR) cm q (by omega) (Nat.le_refl _)
            have e:lx.insZ lk cm q = lk.drop cm:=by unfold lx.insZ;exact List.take_of_length_le (by rw [List.length_drop,← uh Hq];omega)
            rw [e] at this
            exact ⟨this.len,Nat.le_refl _,(fun e => by cases e),this.at_⟩)
           clear hceq
           have N:=Hi (newLn_ok (some ⟨bi,oi + cm,none⟩) (q - cm) (q - cm) (lk.drop cm) wr (uh hrw) (by omega))
           have HX:=Hi (show (dd L).getD k [] = (lk.drop cm) from uh hdd)
           clear HR
           go_wp2_with fail
           refine (uh N).mono ?_
           rintro e w4 ⟨rfl,hln,hb4⟩
           clear N
           obtain ⟨⟨u4v,c4⟩,f4,hnx⟩:=hI.step hkm hb4 hln (uh HX)
           have HN:=Hi hnx
           clear hnx hln hb4 hI HX c1
           go_wp2
           go_roundw
           case rel => exact ⟨k + 1,by omega,by go_num,uh HN⟩
           case measure => first | (simp [intOf];omega) | simp [intOf]
         ·have hdd:=Hi (show (dd L).getD k [] = [] from by rw [uh hdk,if_neg hfk0,List.drop_eq_nil_of_le (by rw [← uh Hq];omega)])
          clear hdk hfk0
          have mj:(q:Int) < (cm:Int):=by omega
          have mi:min (cm:Int) (q:Int) = (q:Int):=by omega
          have N:=Hi (newLn_ok (some ⟨bi,oi,none⟩) 0 0 [] wr (⟨rfl,Nat.le_refl _,(fun e => by cases e),.inl rfl⟩) (by omega))
          have HX:=Hi (show (dd L).getD k [] = [] from uh hdd)
          clear HR
          go_wp2_with fail
          refine (uh N).mono ?_
          rintro e w4 ⟨rfl,hln,hb4⟩
          clear N
          obtain ⟨⟨u4v,c4⟩,f4,hnx⟩:=hI.step hkm hb4 hln (uh HX)
          have HN:=Hi hnx
          clear hnx hln hb4 hI HX c1
          go_wp2
          go_roundw
          case rel => exact ⟨k + 1,by omega,by go_num,uh HN⟩
          case measure => first | (simp [intOf];omega) | simp [intOf]
       ·obtain rfl:k = m:=by omega
        have i7:¬ (k:Int) < (k:Int):=by omega
        go_wp2
        go_ret
        rw [uh HDl]
        exact ⟨G,rfl,hI.done (uh HDl),hI.bel⟩
     ·rw [hb2] at H2
      have Hb2:=Hi hb2
      have hsf:s ≠ f:=fun e => by rw [e] at hb2;rw [uh Hb] at hb2;cases hb2
      clear hb2
      go_wp2_with fail
      refine (uh H2).mono ?_
      rintro e w1 ⟨rfl,rfl⟩
      clear H2 h1
      go_wp2_with fail
      refine ⟨⟨s,by omega,by omega,by first | rfl | (congr 1;omega),trivial,Hi (fun j hj hj2 => ?_)⟩,by simp only [intOf];omega⟩
      by_cases e:j = s
      ·rw [e];exact uh Hb2
      ·exact uh hT j (by omega) hj2
   ·rw [hb] at H2
    have Hb:=Hi hb
    clear hb
    go_wp2_with fail
    refine (uh H2).mono ?_
    rintro e w1 ⟨rfl,rfl⟩
    clear H2 h1
    go_wp2_with fail
    refine ⟨⟨f + 1,by omega,rfl,trivial,Hi (fun j hj => ?_)⟩,by simp only [intOf];omega⟩
    by_cases e:j = f
    ·rw [e];exact uh Hb
    ·exact uh hF j (by omega)
  ·obtain rfl:f = n:=by omega
   have HDl:=Hi (show dd L = [] from by
    have e:=trm_cut L f f (Nat.le_refl _) (by rw [uh HL];exact Nat.le_refl _) (uh hF) (fun h => by omega) (fun j hj hj2 => by rw [uh HL] at hj2;omega) (fun h => by omega)
    rw [Nat.sub_self,List.take_zero] at e
    unfold dd
    rw [e]
    exact List.eq_nil_of_length_eq_zero (cutF_len _ _ _))
   have i1:¬ (f:Int) < (f:Int):=by omega
   go_wp2_with fail
   go_loopw [4] (fun i wr => i = .int .i64 f ∧ w = wr) (fun i _ => (intOf i).toNat)
   case atStart => exact ⟨rfl,rfl⟩
   case round =>
    obtain ⟨rfl,rfl⟩:=hrel
    go_wp2_with fail
    refine (uh hC).mono ?_
    rintro e w1 ⟨rfl,b1⟩
    clear hC
    have hB1:=b1.size
    have i5:(f:Int) ≤ (c:Int):=by omega
    by_cases hfc:f = c
    ·subst hfc
     go_wp2_with (first
      | (refine wpList_make_full _ rfl _ _ 183 rfl w.heap.size 109 i0 (.slice none 0 0) 1 Tryz.underlying183 hi hz0 hz1 .i64 .i64 _ _ 0 rfl rfl (by omega) (by omega) (by rw [hz2];omega) (by unfold maxLen;omega) hB1 ?_;intro w2 hown hgrow;have hg1:=b1.trans ((belowNone hgrow).mono hB1);obtain ⟨cur,hcur,hcz⟩:=own_block hown)
      | (refine wpList_copy_splice rfl _ _ 183 183 rfl 109 Tryz.underlying183 sizeSS _ _ 0 0 0 0 rfl rfl w1.heap.size 0 cur.toList 109 hcur [] (by rfl) (fun hp => by simp at hp) (by simp) (fun v hv => by cases hv) w.heap.size w hg1 hB1 ?_;intro w3 hrow3 hb3))
     obtain ⟨G,hG⟩:∃ G,G = w1.heap.size:=⟨_,rfl⟩
     have HG:=Hi (show G < w3.heap.size from by
      have:=hrow3.out
      rcases Nat.lt_or_ge w1.heap.size w3.heap.size with h | h
      ·omega
      ·rw [Array.getElem?_eq_none h] at this;cases this)
     rw [← hG]
     clear hG hrow3
     go_loopw [52] (fun i wr => i = .int .i64 0 ∧ w3 = wr) (fun i _ => (intOf i).toNat)
     case atStart => exact ⟨rfl,rfl⟩
     case round =>
      obtain ⟨rfl,rfl⟩:=hrel
      go_wp2
      go_ret
      rw [uh HDl]
      exact ⟨G,rfl,Lns.nil0 (uh HG),hb3⟩
    ·have hfc2:f < c:=by omega
     go_wp2_with (first
      | (refine wpList_make_full _ rfl _ _ 183 rfl w.heap.size 109 i0 (.slice none 0 0) 1 Tryz.underlying183 hi hz0 hz1 .i64 .i64 _ _ 0 rfl rfl (by omega) (by omega) (by rw [hz2];omega) (by unfold maxLen;omega) hB1 ?_;intro w2 hown hgrow;have hg1:=b1.trans ((belowNone hgrow).mono hB1);obtain ⟨cur,hcur,hcz⟩:=own_block hown)
      | (refine wpList_copy_splice rfl _ _ 183 183 rfl 109 Tryz.underlying183 sizeSS _ _ 0 0 0 0 rfl rfl w1.heap.size 0 cur.toList 109 hcur [] (by rfl) (fun hp => by simp at hp) (by simp) (fun v hv => by cases hv) w.heap.size w hg1 hB1 ?_;intro w3 hrow3 hb3))
     obtain ⟨G,hG⟩:∃ G,G = w1.heap.size:=⟨_,rfl⟩
     have HG:=Hi (show G < w3.heap.size from by
      have:=hrow3.out
      rcases Nat.lt_or_ge w1.heap.size w3.heap.size with h | h
      ·omega
      ·rw [Array.getElem?_eq_none h] at this;cases this)
     rw [← hG]
     clear hG hrow3
     go_loopw [52] (fun i wr => i = .int .i64 0 ∧ w3 = wr) (fun i _ => (intOf i).toNat)
     case atStart => exact ⟨rfl,rfl⟩
     case round =>
      obtain ⟨rfl,rfl⟩:=hrel
      go_wp2
      go_ret
      rw [uh HDl]
      exact ⟨G,rfl,Lns.nil0 (uh HG),hb3⟩
def sz:List (List Int) → Nat
 | [] => 0
 | x :: L => x.length + 1 + sz L
theorem sz_app (A B:List (List Int)):sz (A ++ B) = sz A + sz B:=by
 induction A with
 | nil => simp [sz]
 | cons x A ih => simp only [List.cons_append,sz,ih];omega
theorem jn_sz:∀ (L:List (List Int)),(jn L).length ≤ sz L - 1
 | [] => by simp [jn]
 | [x] => by simp [jn,sz]
 | x :: y :: r => by
  have ih:=jn_sz (y :: r)
  rw [jn,sz]
  simp only [List.length_append,List.length_cons]
  have:1 ≤ sz (y :: r):=by simp only [sz];omega
  omega
theorem len_sz:∀ (L:List (List Int)),L.length ≤ sz L
 | [] => by simp [sz]
 | x :: L => by have:=len_sz L;simp only [List.length_cons,sz];omega
theorem get_sz:∀ (L:List (List Int)) (i:Nat),(L.getD i []).length ≤ sz L - 1
 | [],i => by simp
 | x :: L,0 => by simp only [sz,List.getD_cons_zero];omega
 | x :: L,i + 1 => by
  have:=get_sz L i
  simp only [sz,List.getD_cons_succ]
  omega
theorem sz_map (c:Nat):∀ (L:List (List Int)),sz (L.map (List.drop c)) ≤ sz L
 | [] => by simp [sz]
 | x :: L => by have:=sz_map c L;simp only [List.map_cons,sz,List.length_drop];omega
theorem sz_cutF (f c:Nat) (L:List (List Int)):sz (cutF f c L) ≤ sz L:=by
 unfold cutF
 split
 ·cases L with
  | nil => simp [cutL]
  | cons x L => have:=sz_map c L;simp only [cutL,sz];omega
 ·exact sz_map c L
theorem sz_trm (L:List (List Int)):sz (trm L) ≤ sz L:=by
 rcases trm_form L with ⟨h,_⟩ | ⟨A,B,h,_⟩
 ·rw [h];simp [sz]
 ·have:sz L = sz (A ++ trm L ++ B):=by rw [← h]
  rw [this,sz_app,sz_app]
  omega
theorem sz_dd (L:List (List Int)):sz (dd L) ≤ sz L:=Nat.le_trans (sz_cutF _ _ _) (sz_trm L)
theorem sz_pre (c:Int) (L:List (List Int)) (h:L ≠ []):sz (pre c L) = sz L + 1:=by
 cases L with
 | nil => exact absurd rfl h
 | cons x L => simp only [pre,sz,List.length_cons];omega
theorem sz_lns:∀ (l:List Int),sz (lns l) ≤ l.length + 1
 | [] => by simp [lns,sz]
 | c :: r => by
  have ih:=sz_lns r
  rw [lns]
  split
  ·simp only [sz,List.length_nil,List.length_cons];omega
  ·split
   ·split
    ·simp only [List.length_cons];omega
    ·simp only [sz,List.length_nil,List.length_cons];omega
   ·rw [sz_pre c _ (lns_ne r),List.length_cons];omega
theorem blkF_len:∀ (k:Nat) (l:List Int) (q:Nat) (o:Bool) (r:List Int × Bool),lx.blkF k l q o = some r → r.1.length ≤ l.length
 | 0,l,q,o,r,h => by
  unfold lx.blkF at h
  split at h
  ·simp at h;subst h;simp
  ·cases h
 | k + 1,l,q,o,r,h => by
  unfold lx.blkF at h
  split at h
  ·simp at h;subst h;simp
  ·rename_i h0
   split at h
   ·rename_i he
    have h4:=lx.eqB_len l he
    cases e:lx.blkF k (l.drop 4) 0 false with
    | none => rw [e] at h;cases h
    | some r2 =>
     rw [e] at h
     simp at h
     subst h
     have:=blkF_len k _ _ _ _ e
     simp at this ⊢
     omega
   ·split at h
    ·split at h
     ·cases h
     ·cases e:lx.blkF k (l.drop 1) (q + 1) true with
      | none => rw [e] at h;cases h
      | some r2 =>
       rw [e] at h
       simp at h
       subst h
       have:=blkF_len k _ _ _ _ e
       simp at this ⊢
       omega
    ·split at h
     ·cases h
     ·cases e:lx.blkF k (l.drop 1) 0 (decide (lx.cAt l 0 = 92)) with
      | none => rw [e] at h;cases h
      | some r2 =>
       rw [e] at h
       simp at h
       subst h
       have:=blkF_len k _ _ _ _ e
       simp at this ⊢
       omega
theorem blk_len (l:List Int) (r:List Int × Bool) (h:lx.blk l = some r):r.1.length ≤ l.length:=blkF_len _ _ _ _ _ h
def bS (l:List Int):ByteArray:=match lx.blk l with
 | some (r,true) => encS (jn (dd (lns r)))
 | _ => ⟨#[]⟩
def bE (l:List Int):Int:=match lx.blk l with
 | some (_,true) => 0
 | _ => 60
set_option maxHeartbeats 4000000 in
theorem block_ok (a:Option Addr) (n c:Nat) (l:List Int) (w:World) (h:Row .i32 w a n c l) (hn:n ≤ 1099511627776) :
  Calls Tryz.prog 140 #[.slice a n c] w fun e w' => e = .returned (.tuple #[.string (bS l),.int .i64 (bE l)]) ∧ Below w.heap.size w w':=by
 have HB:=Hi (lx.blockChars_ok a n c l w h hn)
 have hl:=h.len
 unfold bS bE
 unfold lx.BlkPost at HB
 cases e:lx.blk l with
 | none =>
  rw [e] at HB
  clear e
  go_enter Tryz.func140,Tryz.ntmps140
  go_wp2_with fail
  refine (uh HB).mono ?_
  rintro e w1 ⟨rfl,b1⟩
  clear HB
  go_wp2
  go_ret2
  exact ⟨rfl,b1⟩
 | some r =>
  have hr:=blk_len l r e
  rw [e] at HB
  clear e
  obtain ⟨r,o⟩:=r
  simp only at hr
  cases o with
  | false =>
   go_enter Tryz.func140,Tryz.ntmps140
   go_wp2_with fail
   refine (uh HB).mono ?_
   rintro e w1 ⟨⟨v,rfl,_⟩,b1⟩
   clear HB
   go_wp2
   go_ret2
   exact ⟨rfl,b1⟩
  | true =>
   have z1:=sz_lns r
   have z2:=sz_dd (lns r)
   have z3:=jn_sz (dd (lns r))
   have z4:=len_sz (lns r)
   have z5:=len_sz (dd (lns r))
   have z6:0 < (lns r).length:=List.length_pos_iff.2 (lns_ne r)
   have HZ:=Hi (show ∀ i,((lns r).getD i []).length ≤ 1099511627776 from fun i => by have:=get_sz (lns r) i;omega)
   go_enter Tryz.func140,Tryz.ntmps140
   go_wp2_with fail
   refine (uh HB).mono ?_
   rintro e w1 ⟨⟨v,rfl,hown⟩,b1⟩
   clear HB
   obtain ⟨a1,c1,rfl,hrow⟩:=own_row hown
   clear hown
   simp only
   go_wp2_with fail
   refine (lines_any a1 _ c1 r w1 hrow (by omega)).mono ?_
   rintro e w2 ⟨v2,gs,rfl,hat,b2⟩
   rw [linesL_eq] at hat
   obtain ⟨b,c2,rfl,hln⟩:=lns_of hat z6
   clear hat
   have b12:=b1.trans (b2.mono b1.size)
   generalize hL:lns r = L at *
   have HLr:=Hi hL
   clear hL
   go_wp2_with fail
   refine (dedent_ok b _ c2 L w2 hln z6 (by omega) (uh HZ)).mono ?_
   rintro e w3 ⟨g,rfl,hln3,b3⟩
   have b13:=b12.trans (b3.mono b12.size)
   generalize hD:dd L = D at *
   have HDr:=Hi hD
   clear hD
   go_wp2_with fail
   refine (joined_ok g 0 _ _ D w3 hln3 (by omega) (by omega)).mono ?_
   rintro e w4 ⟨v4,rfl,hown4,b4⟩
   have b14:=b13.trans (b4.mono b13.size)
   obtain ⟨a4,c4,rfl,hrow4⟩:=own_row hown4
   clear hown4
   go_wp2_with fail
   refine (encode_any a4 _ c4 (jn D) w4 hrow4 (by omega)).mono ?_
   rintro e w5 ⟨rfl,b5⟩
   have b15:=b14.trans (b5.mono b14.size)
   go_wp2
   go_ret2
   exact ⟨by rw [uh HLr,uh HDr];rfl,b15⟩
end Go.Proofs.YtepmbmbnlmbhhaaGreat.sv
namespace Go.Proofs.YtepmbmbnlmbhhaaGreat.lx
open Go.ChangeShapes Go.WideShapes Go.ChangeAt Go.RowKit
open ints (Hi uh hexV)
open mem
set_option maxHeartbeats 4000000 in
set_option maxRecDepth 4000 in
theorem qtd_ok (a:Option Addr) (n c:Nat) (cl:Bool) (l:List Int) (p:Nat) (w:World) (h:Row .i32 w a n c l) (hn:n ≤ 1099511627776) (hp:p < n) (hs:∀ x ∈ l,scP x) :
  Calls Tryz.prog 118 #[src a n c cl,.int .i64 (p:Int)] w fun e w' => e = .returned (.tuple #[.int .i64 (qtd l p).1,.int .i64 ((qtd l p).2.1:Int),.string (qtd l p).2.2]) ∧ Below w.heap.size w w':=by
 have hl:=Hi h.len
 have hle:=h.le
 obtain ⟨b,off,rfl⟩:∃ b off,a = some ⟨b,off,none⟩:=by
  rcases h.at_ with h1 | ⟨b,off,e,_⟩
  ·omega
  ·exact ⟨b,off,e⟩
 have HS:=Hi hs
 clear hs
 obtain ⟨R,hR⟩:∃ R,R = endQ l (n + 2) (p + 1):=⟨_,rfl⟩
 have HQ:=Hi (show qtd l p = qtdR l p R from by unfold qtd;rw [uh hl,hR])
 have HR:=Hi hR.symm
 clear hR
 unfold src
 have hsb:=Hi (Sb.new w (some ⟨b,off,none⟩) n c cl)
 go_enter Tryz.func118,Tryz.ntmps118
 go_wp2_with fail
 obtain ⟨w1,hw1⟩:∃ w1,w1 = w.alloc (.cells #[.slice (some ⟨b,off,none⟩) n c,.bool cl] 113):=⟨_,rfl⟩
 rw [← hw1] at hsb ⊢
 clear hw1
 go_loopg [8] (n + 1) (fun g vi wr => ∃ k fu:Nat,p + 1 ≤ k ∧ k ≤ n ∧ n + 1 ≤ g + k ∧ n + 1 ≤ fu + k ∧ vi = .int .i64 k ∧ Hid (endQ l fu k = R) ∧ Sb w wr (some ⟨b,off,none⟩) n c cl)
 case atStart => exact ⟨p + 1,n + 2,by omega,by omega,by omega,by omega,by go_num,HR,uh hsb⟩
 case round =>
  obtain ⟨k,fu,hpk,hk,hg,hf,rfl,hik,hs⟩:=hrel
  obtain ⟨f2,rfl⟩:∃ f2,fu = f2 + 1:=⟨fu - 1,by omega⟩
  have hik':=Hi (show (if cAt l k = 34 then some k
   else if cAt l k = 92 then (if cAt l (k + 1) = 10 ∨ cAt l (k + 1) = 13 ∨ soB (cAt l (k + 1)) = false then none else endQ l f2 (k + 2))
   else if cAt l k = 10 ∨ cAt l k = 13 ∨ soB (cAt l k) = false then none else endQ l f2 (k + 1)) = R from uh hik)
  clear hik
  have d0:=hs.c0
  have d1:=hs.c1
  go_wp2_with fail
  refine (at_ok _ n c cl l k wr (h.below hs.bel) (by omega)).mono ?_
  rintro e w2 ⟨rfl,b2⟩
  have hs2:=hs.below b2
  obtain ⟨x,hx⟩:∃ x,x = cAt l k:=⟨_,rfl⟩
  rw [← hx] at hik' ⊢
  have Hx:=Hi hx.symm
  clear hx hs d0 d1
  have d0:=hs2.c0
  have d1:=hs2.c1
  by_cases h34:x = 34
  ·have hRk:=Hi (show R = some k from by rw [← uh hik',if_pos h34])
   have hkn:k < n:=by rw [← uh hl];exact cAt_34 l k (by rw [uh Hx,h34])
   have kc:(k:Int) ≤ (c:Int):=by omega
   have pc:¬ c = p + 1:=by omega
   have HU:=Hi (quoted_ok _ _ _ _ w2 ((row_mid h (p + 1) k hpk (by omega)).below hs2.bel) (by omega) (fun x hx => uh HS x (List.mem_of_mem_drop (List.mem_of_mem_take hx))))
   have HB:=Hi (fun W => bad_ok p W)
   subst h34
   clear hik' Hx
   go_wp2_with fail
   refine (uh HU).mono ?_
   rintro e w3 ⟨rfl,b3⟩
   cases hq:quo (insZ l (p + 1) k) with
   | none =>
    have HF:=Hi (show qtd l p = (1,p,⟨#[]⟩) from by rw [uh HQ,uh hRk];unfold qtdR;simp only [hq])
    rw [show quoS (insZ l (p + 1) k) = ⟨#[]⟩ from by unfold quoS;rw [hq],show quoE (insZ l (p + 1) k) = 60 from by unfold quoE;rw [hq]]
    clear hq
    go_wp2_with fail
    refine (uh HB _).mono ?_
    rintro e w4 ⟨rfl,rfl⟩
    go_wp2_with fail
    go_ret3
    exact ⟨by rw [uh HF];rfl,hs2.bel.trans (b3.mono hs2.bel.size)⟩
   | some r =>
    have HF:=Hi (show qtd l p = (6,k + 1,encS r) from by rw [uh HQ,uh hRk];unfold qtdR;simp only [hq])
    rw [show quoS (insZ l (p + 1) k) = encS r from by unfold quoS;rw [hq],show quoE (insZ l (p + 1) k) = 0 from by unfold quoE;rw [hq]]
    clear hq
    go_wp2_with fail
    go_ret3
    exact ⟨by rw [uh HF];rfl,hs2.bel.trans (b3.mono hs2.bel.size)⟩
  ·have e34:(x != 34) = true:=by simpa using h34
   go_wp2_with fail
   refine (at_ok _ n c cl l k w2 (h.below hs2.bel) (by omega)).mono ?_
   rintro e w3 ⟨rfl,b3⟩
   rw [uh Hx]
   have hs3:=hs2.below b3
   clear d0 d1
   have d0:=hs3.c0
   have d1:=hs3.c1
   by_cases h92:x = 92
   ·subst h92
    have hik1:=Hi (show (if cAt l (k + 1) = 10 ∨ cAt l (k + 1) = 13 ∨ soB (cAt l (k + 1)) = false then none else endQ l f2 (k + 2)) = R from by
     have e:=uh hik'
     rw [if_neg (show ¬ (92:Int) = 34 by decide),if_pos rfl] at e
     exact e)
    clear hik' Hx h34 e34
    obtain ⟨x,hx⟩:∃ x,x = cAt l (k + 1):=⟨_,rfl⟩
    have hik2:=Hi (show (if x = 10 ∨ x = 13 ∨ soB x = false then none else endQ l f2 (k + 2)) = R from by rw [hx];exact uh hik1)
    have Hx:=Hi hx.symm
    clear hx hik1
    go_wp2_with fail
    rw [show ((k:Int) + 1) = ((k + 1:Nat):Int) by omega]
    refine (at_ok _ n c cl l (k + 1) w3 (h.below hs3.bel) (by omega)).mono ?_
    rintro e w4 ⟨rfl,b4⟩
    rw [uh Hx]
    have hs4:=hs3.below b4
    clear d0 d1
    have d0:=hs4.c0
    have d1:=hs4.c1
    by_cases hc:x = 10 ∨ x = 13
    ·have HF:=Hi (show qtd l p = (1,p,⟨#[]⟩) from by rw [uh HQ,← uh hik2,if_pos (by rcases hc with e | e;exact .inl e;exact .inr (.inl e))];rfl)
     have HB:=Hi (fun W => bad_ok p W)
     clear hik2 Hx
     rcases hc with rfl | rfl
     ·go_wp2_with fail
      refine (uh HB _).mono ?_
      rintro e w5 ⟨rfl,rfl⟩
      go_wp2_with fail
      go_ret3
      exact ⟨by rw [uh HF];rfl,hs4.bel⟩
     ·go_wp2_with fail
      refine (uh HB _).mono ?_
      rintro e w5 ⟨rfl,rfl⟩
      go_wp2_with fail
      go_ret3
      exact ⟨by rw [uh HF];rfl,hs4.bel⟩
    have g1:(x == 10) = false:=by simp;exact fun e => hc (.inl e)
    have g2:(x == 13) = false:=by simp;exact fun e => hc (.inr e)
    have n1:¬ x = 10:=fun e => hc (.inl e)
    have n2:¬ x = 13:=fun e => hc (.inr e)
    clear hc
    go_wp2_with fail
    refine (source_ok x _).mono ?_
    rintro e w5 ⟨rfl,rfl⟩
    cases hsx:soB x with
    | false =>
     have HF:=Hi (show qtd l p = (1,p,⟨#[]⟩) from by rw [uh HQ,← uh hik2,if_pos (.inr (.inr hsx))];rfl)
     have HB:=Hi (fun W => bad_ok p W)
     clear hik2 Hx hsx
     go_wp2_with fail
     refine (uh HB _).mono ?_
     rintro e w6 ⟨rfl,rfl⟩
     go_wp2_with fail
     go_ret3
     exact ⟨by rw [uh HF];rfl,hs4.bel⟩
    | true =>
     have hkn:k + 1 < n:=by rw [← uh hl];exact cAt_so l (k + 1) (by rw [uh Hx,hsx])
     have hik3:=Hi (show endQ l f2 (k + 2) = R from by rw [← uh hik2,if_neg (fun e => by rcases e with e | e | e;exact n1 e;exact n2 e;rw [hsx] at e;cases e)])
     clear hik2 Hx hsx
     go_wp2_with fail
     go_roundg (gk - 1)
     case rel => exact ⟨k + 2,f2,by omega,by omega,by omega,by omega,by go_num,hik3,hs4⟩
     case measure => omega
   ·have e92:(x == 92) = false:=by simpa using h92
    have hik2:=Hi (show (if x = 10 ∨ x = 13 ∨ soB x = false then none else endQ l f2 (k + 1)) = R from by rw [← uh hik',if_neg h34,if_neg h92])
    clear hik'
    go_wp2_with fail
    refine (at_ok _ n c cl l k w3 (h.below hs3.bel) (by omega)).mono ?_
    rintro e w4 ⟨rfl,b4⟩
    rw [uh Hx]
    have hs4:=hs3.below b4
    clear d0 d1
    have d0:=hs4.c0
    have d1:=hs4.c1
    by_cases hc:x = 10 ∨ x = 13
    ·have HF:=Hi (show qtd l p = (1,p,⟨#[]⟩) from by rw [uh HQ,← uh hik2,if_pos (by rcases hc with e | e;exact .inl e;exact .inr (.inl e))];rfl)
     have HB:=Hi (fun W => bad_ok p W)
     clear hik2 Hx
     rcases hc with rfl | rfl
     ·go_wp2_with fail
      refine (uh HB _).mono ?_
      rintro e w5 ⟨rfl,rfl⟩
      go_wp2_with fail
      go_ret3
      exact ⟨by rw [uh HF];rfl,hs4.bel⟩
     ·go_wp2_with fail
      refine (uh HB _).mono ?_
      rintro e w5 ⟨rfl,rfl⟩
      go_wp2_with fail
      go_ret3
      exact ⟨by rw [uh HF];rfl,hs4.bel⟩
    have g1:(x == 10) = false:=by simp;exact fun e => hc (.inl e)
    have g2:(x == 13) = false:=by simp;exact fun e => hc (.inr e)
    have n1:¬ x = 10:=fun e => hc (.inl e)
    have n2:¬ x = 13:=fun e => hc (.inr e)
    clear hc
    go_wp2_with fail
    refine (source_ok x _).mono ?_
    rintro e w5 ⟨rfl,rfl⟩
    cases hsx:soB x with
    | false =>
     have HF:=Hi (show qtd l p = (1,p,⟨#[]⟩) from by rw [uh HQ,← uh hik2,if_pos (.inr (.inr hsx))];rfl)
     have HB:=Hi (fun W => bad_ok p W)
     clear hik2 Hx hsx
     go_wp2_with fail
     refine (uh HB _).mono ?_
     rintro e w6 ⟨rfl,rfl⟩
     go_wp2_with fail
     go_ret3
     exact ⟨by rw [uh HF];rfl,hs4.bel⟩
    | true =>
     have hkn:k < n:=by rw [← uh hl];exact cAt_so l k (by rw [uh Hx,hsx])
     have hik3:=Hi (show endQ l f2 (k + 1) = R from by rw [← uh hik2,if_neg (fun e => by rcases e with e | e | e;exact n1 e;exact n2 e;rw [hsx] at e;cases e)])
     clear hik2 Hx hsx
     go_wp2_with fail
     go_roundg (gk - 1)
     case rel => exact ⟨k + 1,f2,by omega,by omega,by omega,by omega,by go_num,hik3,hs4⟩
     case measure => omega
open ints (Hi uh)
open mem (Row)
def E0:ByteArray:=⟨#[]⟩
def rdG (l:List Int) (cl:Bool) (i:Nat):Int × Nat × ByteArray:=
 if i = l.length ∧ cl = true then (0,i,E0)
 else if cAt l i = 46 then (if cAt l (i + 1) = 46 ∧ cAt l (i + 2) = 46 then (2,i + 3,E0) else (1,i,E0))
 else if puB (cAt l i) then (2,i + 1,E0)
 else if nsB (cAt l i) then (3,nam l (i + 1),E0)
 else if cAt l i = 45 ∨ mem.digB (cAt l i) then ((num l i).1,(num l i).2,E0)
 else if tq l i = true then blc sv.bS l i
 else if cAt l i = 34 then qtd l i
 else (1,i,E0)
set_option maxHeartbeats 8000000 in
theorem rdG_ok (a:Option Addr) (n c:Nat) (cl:Bool) (l:List Int) (i:Nat) (w:World) (h:Row .i32 w a n c l) (hn:n ≤ 1099511627776) (hi:i ≤ n) (hs:∀ x ∈ l,mem.scP x) :
  Calls Tryz.prog 97 #[src a n c cl,.int .i64 (i:Int)] w fun e w' => e = .returned (.tuple #[.int .i64 (rdG l cl i).1,.int .i64 ((rdG l cl i).2.1:Nat),.string (rdG l cl i).2.2]) ∧ Below w.heap.size w w':=by
 have hl:=Hi h.len
 have hsb:=Hi (Sb.new w a n c cl)
 have hN:=Hi (show rdG l cl i = (if i = l.length ∧ cl = true then (0,i,E0)
  else if cAt l i = 46 then (if cAt l (i + 1) = 46 ∧ cAt l (i + 2) = 46 then (2,i + 3,E0) else (1,i,E0))
  else if puB (cAt l i) then (2,i + 1,E0)
  else if nsB (cAt l i) then (3,nam l (i + 1),E0)
  else if cAt l i = 45 ∨ mem.digB (cAt l i) then ((num l i).1,(num l i).2,E0)
  else if tq l i = true then blc sv.bS l i
  else if cAt l i = 34 then qtd l i
  else (1,i,E0)) from rfl)
 obtain ⟨N,hNe⟩:∃ N,N = rdG l cl i:=⟨_,rfl⟩
 rw [← hNe] at hN ⊢
 clear hNe
 have hA:=Hi (fun W (hb:Below w.heap.size w W) (k:Nat) => at_ok a n c cl l k W (h.below hb) (by omega))
 have hxs:mem.scP (cAt l i) ∨ cAt l i = -1:=by
  rcases Nat.lt_or_ge i l.length with h1 | h1
  ·left
   rw [cAt_in h1]
   exact hs _ (by rw [List.getD_eq_getElem?_getD,List.getElem?_eq_getElem h1];exact List.getElem_mem h1)
  ·exact .inr (cAt_end h1)
 have hend:i = n → cAt l i = -1 ∧ tq l i = false:=fun e => by
  have h1:cAt l i = -1:=cAt_end (by rw [h.len];omega)
  refine ⟨h1,?_⟩
  unfold tq
  rw [h1]
  simp
 have htq:=Hi (fun W (hb:Below w.heap.size w W) => tq_ok a n c cl l i W (h.below hb) hn (by omega))
 have hbc:=Hi (fun W (hb:Below w.heap.size w W) (ht:tq l i = true) => blc_ok sv.bS sv.bE (fun a n c l w h hn _ => sv.block_ok a n c l w h hn) a n c cl l i W (h.below hb) hn (by have:=tq_len l i ht;rw [h.len] at this;omega) hs)
 have hqt:=Hi (fun W (hb:Below w.heap.size w W) (hlt:i < n) => qtd_ok a n c cl l i W (h.below hb) hn hlt hs)
 have hct:=Hi (fun W => contains_any (cAt l i) W hxs)
 obtain ⟨x,hx⟩:∃ x,x = cAt l i:=⟨_,rfl⟩
 have hX:=Hi hx
 rw [← hx] at hN hend hct
 clear hx hxs hs
 unfold src
 go_enter Tryz.func97,Tryz.ntmps97
 go_wp2_with fail
 obtain ⟨w1,hw1⟩:∃ w1,w1 = w.alloc (.cells #[.slice a n c,.bool cl] 113):=⟨_,rfl⟩
 rw [← hw1] at hsb ⊢
 clear hw1
 refine ((uh hA) w1 (uh hsb).bel i).mono ?_
 rintro e w2 ⟨rfl,b2⟩
 have hs2:=(uh hsb).below b2
 rw [← uh hX]
 have d0:=hs2.c0
 have d1:=hs2.c1
 have F:∀ (T:Nat) (V:ByteArray) (K:Int),N = (K,T,V) → Ending.returned (.tuple #[.int .i64 K,.int .i64 (T:Int),.string V]) = .returned (.tuple #[.int .i64 N.1,.int .i64 (N.2.1:Nat),.string N.2.2]):=fun T V K e => by rw [e]
 have HF:=Hi F
 clear F
 by_cases hin:i = n
 ·obtain ⟨hx1,htf⟩:=hend hin
  cases cl with
  | true =>
   have hN2:=Hi (show N = (0,i,E0) from by rw [uh hN,if_pos ⟨by rw [uh hl];exact hin,rfl⟩])
   subst hin
   clear hx1 htf hend
   go_wp2_with fail
   go_ret3
   exact ⟨(uh HF) _ _ _ (uh hN2),hs2.bel⟩
  | false =>
   have hN2:=Hi (show N = (1,i,E0) from by
    rw [uh hN,if_neg (fun e => by cases e.2),hx1,htf]
    rfl)
   rw [htf] at htq
   rw [hx1] at hct
   subst hin
   subst hx1
   clear htf hend hN
   go_wp2_with fail
   refine ((uh hct) _).mono ?_
   rintro e w3 ⟨rfl,b3⟩
   have hs3:=hs2.below b3
   clear d0 d1
   have d0:=hs3.c0
   have d1:=hs3.c1
   have e1:puB (-1) = false:=by decide
   have e2:nsB (-1) = false:=by decide
   have e3:mem.digB (-1) = false:=by decide
   rw [e1]
   go_wp2_with fail
   refine (ns_ok (-1) _).mono ?_
   rintro e w4 ⟨rfl,rfl⟩
   rw [e2]
   go_wp2_with fail
   refine (digit_ok (-1) _).mono ?_
   rintro e w4 ⟨rfl,rfl⟩
   rw [e3]
   go_wp2_with fail
   refine ((uh htq) _ hs3.bel).mono ?_
   rintro e w4 ⟨rfl,b4⟩
   have hs4:=hs3.below b4
   go_wp2_with fail
   refine (bad_ok _ _).mono ?_
   rintro e w5 ⟨rfl,rfl⟩
   go_wp2_with fail
   go_ret3
   exact ⟨(uh HF) _ _ _ (uh hN2),hs4.bel⟩
 ·have hlt:i < n:=by omega
  have ene:((i:Int) == (n:Int)) = false:=by simp;omega
  have hN1:=Hi (show N = (if x = 46 then (if cAt l (i + 1) = 46 ∧ cAt l (i + 2) = 46 then (2,i + 3,E0) else (1,i,E0))
   else if puB x then (2,i + 1,E0)
   else if nsB x then (3,nam l (i + 1),E0)
   else if x = 45 ∨ mem.digB x then ((num l i).1,(num l i).2,E0)
   else if tq l i = true then blc sv.bS l i
   else if x = 34 then qtd l i
   else (1,i,E0)) from by rw [uh hN,if_neg (fun e => hin (by rw [e.1,uh hl]))])
  have hnm:=Hi (fun W (hb:Below w.heap.size w W) => nam_ok a n c cl l (i + 1) W (h.below hb) hn (by omega))
  have hnu:=Hi (fun W (hb:Below w.heap.size w W) => num_ok a n c cl l i W (h.below hb) hn hi)
  clear hN hend hin
  by_cases h46:x = 46
  ·subst h46
   have hN2:=Hi (show N = (if cAt l (i + 1) = 46 ∧ cAt l (i + 2) = 46 then (2,i + 3,E0) else (1,i,E0)) from uh hN1)
   clear hN1
   go_wp2_with fail
   rw [show ((i:Int) + 1) = ((i + 1:Nat):Int) by omega]
   refine ((uh hA) _ hs2.bel (i + 1)).mono ?_
   rintro e w3 ⟨rfl,b3⟩
   have hs3:=hs2.below b3
   clear d0 d1
   have d0:=hs3.c0
   have d1:=hs3.c1
   obtain ⟨y,hy⟩:∃ y,y = cAt l (i + 1):=⟨_,rfl⟩
   rw [← hy] at hN2 ⊢
   clear hy
   by_cases hy46:y = 46
   ·subst hy46
    go_wp2_with fail
    rw [show ((i:Int) + 2) = ((i + 2:Nat):Int) by omega]
    refine ((uh hA) _ hs3.bel (i + 2)).mono ?_
    rintro e w4 ⟨rfl,b4⟩
    have hs4:=hs3.below b4
    obtain ⟨z,hz⟩:∃ z,z = cAt l (i + 2):=⟨_,rfl⟩
    rw [← hz] at hN2 ⊢
    clear hz
    by_cases hz46:z = 46
    ·subst hz46
     have hN3:=Hi (show N = (2,i + 3,E0) from by rw [uh hN2];simp)
     go_wp2_with fail
     go_ret3
     exact ⟨(by have:=(uh HF) _ _ _ (uh hN3);rw [← this];go_num),hs4.bel⟩
    ·have e46:(z != 46) = true:=by simpa using hz46
     have hN3:=Hi (show N = (1,i,E0) from by rw [uh hN2,if_neg (fun e => hz46 e.2)])
     clear hz46
     go_wp2_with fail
     refine (bad_ok i _).mono ?_
     rintro e w5 ⟨rfl,rfl⟩
     go_wp2_with fail
     go_ret3
     exact ⟨(uh HF) _ _ _ (uh hN3),hs4.bel⟩
   ·have e46:(y != 46) = true:=by simpa using hy46
    have hN3:=Hi (show N = (1,i,E0) from by rw [uh hN2,if_neg (fun e => hy46 e.1)])
    clear hy46
    go_wp2_with fail
    refine (bad_ok i _).mono ?_
    rintro e w5 ⟨rfl,rfl⟩
    go_wp2_with fail
    go_ret3
    exact ⟨(uh HF) _ _ _ (uh hN3),hs3.bel⟩
  ·have e46:(x == 46) = false:=by simpa using h46
   have hN2:=Hi (show N = (if puB x then (2,i + 1,E0)
    else if nsB x then (3,nam l (i + 1),E0)
    else if x = 45 ∨ mem.digB x then ((num l i).1,(num l i).2,E0)
    else if tq l i = true then blc sv.bS l i
    else if x = 34 then qtd l i
    else (1,i,E0)) from by rw [uh hN1,if_neg h46])
   clear hN1 h46
   go_wp2_with fail
   refine ((uh hct) _).mono ?_
   rintro e w3 ⟨rfl,b3⟩
   have hs3:=hs2.below b3
   clear d0 d1
   have d0:=hs3.c0
   have d1:=hs3.c1
   cases hpu:puB x
   ·go_wp2_with fail
    refine (ns_ok x _).mono ?_
    rintro e w4 ⟨rfl,rfl⟩
    cases hns:nsB x
    ·by_cases h45:x = 45
     ·subst h45
      have hN3:=Hi (show N = ((num l i).1,(num l i).2,E0) from by rw [uh hN2];simp [hpu,hns])
      clear hN2
      go_wp2_with fail
      refine ((uh hnu) _ hs3.bel).mono ?_
      rintro e w4 ⟨rfl,b4⟩
      have hs4:=hs3.below b4
      go_wp2_with fail
      go_ret3
      exact ⟨(uh HF) _ _ _ (uh hN3),hs4.bel⟩
     ·have e45:(x == 45) = false:=by simpa using h45
      have H45:=Hi h45
      clear h45
      go_wp2_with fail
      refine (digit_ok x _).mono ?_
      rintro e w4 ⟨rfl,rfl⟩
      cases hdg:mem.digB x
      ·have hN3:=Hi (show N = (if tq l i = true then blc sv.bS l i else if x = 34 then qtd l i else (1,i,E0)) from by rw [uh hN2];simp [hpu,hns,hdg,uh H45])
       clear hN2
       cases htv:tq l i with
       | true =>
        have hN4:=Hi (show N = blc sv.bS l i from by rw [uh hN3,if_pos htv])
        have hbc2:=Hi (fun W hb => (uh hbc) W hb htv)
        rw [htv] at htq
        clear hN3 htv hbc
        go_wp2_with fail
        refine ((uh htq) _ hs3.bel).mono ?_
        rintro e w4 ⟨rfl,b4⟩
        have hs4:=hs3.below b4
        clear d0 d1
        have d0:=hs4.c0
        have d1:=hs4.c1
        go_wp2_with fail
        refine ((uh hbc2) _ hs4.bel).mono ?_
        rintro e w5 ⟨rfl,b5⟩
        have hs5:=hs4.below b5
        go_wp2_with fail
        go_ret3
        exact ⟨(uh HF) _ _ _ (uh hN4),hs5.bel⟩
       | false =>
        rw [htv] at htq
        by_cases h34:x = 34
        ·have hN4:=Hi (show N = qtd l i from by rw [uh hN3,htv,if_neg (by decide),if_pos h34])
         have hqt2:=Hi (fun W hb => (uh hqt) W hb hlt)
         subst h34
         clear hN3 htv hbc hqt
         go_wp2_with fail
         refine ((uh htq) _ hs3.bel).mono ?_
         rintro e w4 ⟨rfl,b4⟩
         have hs4:=hs3.below b4
         clear d0 d1
         have d0:=hs4.c0
         have d1:=hs4.c1
         go_wp2_with fail
         refine ((uh hqt2) _ hs4.bel).mono ?_
         rintro e w5 ⟨rfl,b5⟩
         have hs5:=hs4.below b5
         go_wp2_with fail
         go_ret3
         exact ⟨(uh HF) _ _ _ (uh hN4),hs5.bel⟩
        ·have e34:(x == 34) = false:=by simpa using h34
         have hN4:=Hi (show N = (1,i,E0) from by rw [uh hN3,htv,if_neg (by decide),if_neg h34])
         clear hN3 htv hbc hqt h34
         go_wp2_with fail
         refine ((uh htq) _ hs3.bel).mono ?_
         rintro e w4 ⟨rfl,b4⟩
         have hs4:=hs3.below b4
         go_wp2_with fail
         refine (bad_ok i _).mono ?_
         rintro e w5 ⟨rfl,rfl⟩
         go_wp2_with fail
         go_ret3
         exact ⟨(uh HF) _ _ _ (uh hN4),hs4.bel⟩
      ·have hN3:=Hi (show N = ((num l i).1,(num l i).2,E0) from by rw [uh hN2];simp [hpu,hns,hdg])
       clear hN2
       go_wp2_with fail
       refine ((uh hnu) _ hs3.bel).mono ?_
       rintro e w4 ⟨rfl,b4⟩
       have hs4:=hs3.below b4
       go_wp2_with fail
       go_ret3
       exact ⟨(uh HF) _ _ _ (uh hN3),hs4.bel⟩
    ·have hN3:=Hi (show N = (3,nam l (i + 1),E0) from by rw [uh hN2];simp [hpu,hns])
     clear hN2
     go_wp2_with fail
     refine ((uh hnm) _ hs3.bel).mono ?_
     rintro e w4 ⟨rfl,b4⟩
     have hs4:=hs3.below b4
     go_wp2_with fail
     go_ret3
     exact ⟨(uh HF) _ _ _ (uh hN3),hs4.bel⟩
   ·have hN3:=Hi (show N = (2,i + 1,E0) from by rw [uh hN2];simp [hpu])
    clear hN2
    go_wp2_with fail
    go_ret3
    exact ⟨(by have:=(uh HF) _ _ _ (uh hN3);rw [← this];go_num),hs3.bel⟩
set_option maxHeartbeats 4000000 in
theorem rd_ok (a:Option Addr) (n c:Nat) (l:List Int) (i:Nat) (w:World) (h:Row .i32 w a n c l) (hn:n ≤ 1099511627776) (hi:i ≤ n) (hp:Plain l) :
  Calls Tryz.prog 97 #[src a n c true,.int .i64 (i:Int)] w fun e w' => e = .returned (.tuple #[.int .i64 (rd l true i).1,.int .i64 ((rd l true i).2:Nat),.string ⟨#[]⟩]) ∧ Below w.heap.size w w':=by
 have hl:=Hi h.len
 have hsb:=Hi (Sb.new w a n c true)
 have hN:=Hi (show rd l true i = (if i = l.length ∧ true = true then (0,i)
  else if cAt l i = 46 then (if cAt l (i + 1) = 46 ∧ cAt l (i + 2) = 46 then (2,i + 3) else (1,i))
  else if puB (cAt l i) then (2,i + 1)
  else if nsB (cAt l i) then (3,nam l (i + 1))
  else if cAt l i = 45 ∨ mem.digB (cAt l i) then num l i
  else (1,i)) from rfl)
 obtain ⟨N,hNe⟩:∃ N,N = rd l true i:=⟨_,rfl⟩
 rw [← hNe] at hN ⊢
 clear hNe
 have hA:=Hi (fun W (hb:Below w.heap.size w W) (k:Nat) => at_ok a n c true l k W (h.below hb) (by omega))
 have hpl:i < n → 0 ≤ cAt l i ∧ cAt l i ≤ 127 ∧ cAt l i ≠ 34:=fun h' => hp.at_ (by rw [h.len];exact h')
 have htq:=Hi (fun W (hb:Below w.heap.size w W) (h34:cAt l i ≠ 34) => tq_no a n c true l i W (h.below hb) hn hi h34)
 obtain ⟨x,hx⟩:∃ x,x = cAt l i:=⟨_,rfl⟩
 have hX:=Hi hx
 rw [← hx] at hpl hN htq
 clear hx
 unfold src
 go_enter Tryz.func97,Tryz.ntmps97
 go_wp2_with fail
 obtain ⟨w1,hw1⟩:∃ w1,w1 = w.alloc (.cells #[.slice a n c,.bool true] 113):=⟨_,rfl⟩
 rw [← hw1] at hsb ⊢
 clear hw1
 refine ((uh hA) w1 (uh hsb).bel i).mono ?_
 rintro e w2 ⟨rfl,b2⟩
 have hs2:=(uh hsb).below b2
 rw [← uh hX]
 have d0:=hs2.c0
 have d1:=hs2.c1
 by_cases hin:i = n
 ·have hN2:=Hi (show N = (0,i) from by rw [uh hN,if_pos ⟨by rw [uh hl];exact hin,by first | rfl | trivial⟩])
  subst hin
  go_wp2_with fail
  go_ret3
  exact ⟨by rw [uh hN2];rfl,hs2.bel⟩
 ·have hlt:i < n:=by omega
  obtain ⟨x0,x1,x34⟩:=hpl hlt
  have ene:((i:Int) == (n:Int)) = false:=by simp;omega
  have hN1:=Hi (show N = (if x = 46 then (if cAt l (i + 1) = 46 ∧ cAt l (i + 2) = 46 then (2,i + 3) else (1,i))
   else if puB x then (2,i + 1)
   else if nsB x then (3,nam l (i + 1))
   else if x = 45 ∨ mem.digB x then num l i
   else (1,i)) from by rw [uh hN,if_neg (fun e => hin (by rw [e.1,uh hl]))])
  have hnm:=Hi (fun W (hb:Below w.heap.size w W) => nam_ok a n c true l (i + 1) W (h.below hb) hn (by omega))
  have hnu:=Hi (fun W (hb:Below w.heap.size w W) => num_ok a n c true l i W (h.below hb) hn hi)
  clear hN hpl hin
  by_cases h46:x = 46
  ·subst h46
   have hN2:=Hi (show N = (if cAt l (i + 1) = 46 ∧ cAt l (i + 2) = 46 then (2,i + 3) else (1,i)) from uh hN1)
   clear hN1
   go_wp2_with fail
   rw [show ((i:Int) + 1) = ((i + 1:Nat):Int) by omega]
   refine ((uh hA) _ hs2.bel (i + 1)).mono ?_
   rintro e w3 ⟨rfl,b3⟩
   have hs3:=hs2.below b3
   clear d0 d1
   have d0:=hs3.c0
   have d1:=hs3.c1
   obtain ⟨y,hy⟩:∃ y,y = cAt l (i + 1):=⟨_,rfl⟩
   rw [← hy] at hN2 ⊢
   clear hy
   by_cases hy46:y = 46
   ·subst hy46
    go_wp2_with fail
    rw [show ((i:Int) + 2) = ((i + 2:Nat):Int) by omega]
    refine ((uh hA) _ hs3.bel (i + 2)).mono ?_
    rintro e w4 ⟨rfl,b4⟩
    have hs4:=hs3.below b4
    obtain ⟨z,hz⟩:∃ z,z = cAt l (i + 2):=⟨_,rfl⟩
    rw [← hz] at hN2 ⊢
    clear hz
    by_cases hz46:z = 46
    ·subst hz46
     have hN3:=Hi (show N = (2,i + 3) from by rw [uh hN2];simp)
     go_wp2_with fail
     go_ret3
     exact ⟨by rw [uh hN3];go_num,hs4.bel⟩
    ·have e46:(z != 46) = true:=by simpa using hz46
     have hN3:=Hi (show N = (1,i) from by rw [uh hN2,if_neg (fun e => hz46 e.2)])
     clear hz46
     go_wp2_with fail
     refine (bad_ok i _).mono ?_
     rintro e w5 ⟨rfl,rfl⟩
     go_wp2_with fail
     go_ret3
     exact ⟨by rw [uh hN3];rfl,hs4.bel⟩
   ·have e46:(y != 46) = true:=by simpa using hy46
    have hN3:=Hi (show N = (1,i) from by rw [uh hN2,if_neg (fun e => hy46 e.1)])
    clear hy46
    go_wp2_with fail
    refine (bad_ok i _).mono ?_
    rintro e w5 ⟨rfl,rfl⟩
    go_wp2_with fail
    go_ret3
    exact ⟨by rw [uh hN3];rfl,hs3.bel⟩
  ·have e46:(x == 46) = false:=by simpa using h46
   have hN2:=Hi (show N = (if puB x then (2,i + 1)
    else if nsB x then (3,nam l (i + 1))
    else if x = 45 ∨ mem.digB x then num l i
    else (1,i)) from by rw [uh hN1,if_neg h46])
   clear hN1 h46
   go_wp2_with fail
   refine (contains_ok x _ x0 x1).mono ?_
   rintro e w3 ⟨rfl,rfl⟩
   cases hpu:puB x
   ·go_wp2_with fail
    refine (ns_ok x _).mono ?_
    rintro e w3 ⟨rfl,rfl⟩
    cases hns:nsB x
    ·by_cases h45:x = 45
     ·subst h45
      have hN3:=Hi (show N = num l i from by rw [uh hN2];simp [hpu,hns])
      clear hN2
      go_wp2_with fail
      refine ((uh hnu) _ hs2.bel).mono ?_
      rintro e w3 ⟨rfl,b3⟩
      have hs3:=hs2.below b3
      go_wp2_with fail
      go_ret3
      exact ⟨by rw [uh hN3];rfl,hs3.bel⟩
     ·have e45:(x == 45) = false:=by simpa using h45
      have H45:=Hi h45
      clear h45
      go_wp2_with fail
      refine (digit_ok x _).mono ?_
      rintro e w3 ⟨rfl,rfl⟩
      cases hdg:mem.digB x
      ·have hN3:=Hi (show N = (1,i) from by rw [uh hN2];simp [hpu,hns,hdg,uh H45])
       clear hN2
       go_wp2_with fail
       refine ((uh htq) _ hs2.bel x34).mono ?_
       rintro e w3 ⟨rfl,b3⟩
       have hs3:=hs2.below b3
       have e34:(x == 34) = false:=by simpa using x34
       clear x34
       go_wp2_with fail
       refine (bad_ok i _).mono ?_
       rintro e w4 ⟨rfl,rfl⟩
       go_wp2_with fail
       go_ret3
       exact ⟨by rw [uh hN3];rfl,hs3.bel⟩
      ·have hN3:=Hi (show N = num l i from by rw [uh hN2];simp [hpu,hns,hdg])
       clear hN2
       go_wp2_with fail
       refine ((uh hnu) _ hs2.bel).mono ?_
       rintro e w3 ⟨rfl,b3⟩
       have hs3:=hs2.below b3
       go_wp2_with fail
       go_ret3
       exact ⟨by rw [uh hN3];rfl,hs3.bel⟩
    ·have hN3:=Hi (show N = (3,nam l (i + 1)) from by rw [uh hN2];simp [hpu,hns])
     clear hN2
     go_wp2_with fail
     refine ((uh hnm) _ hs2.bel).mono ?_
     rintro e w3 ⟨rfl,b3⟩
     have hs3:=hs2.below b3
     go_wp2_with fail
     go_ret3
     exact ⟨by rw [uh hN3];rfl,hs3.bel⟩
   ·have hN3:=Hi (show N = (2,i + 1) from by rw [uh hN2];simp [hpu])
    clear hN2
    go_wp2_with fail
    go_ret3
    exact ⟨by rw [uh hN3];go_num,hs2.bel⟩
end Go.Proofs.YtepmbmbnlmbhhaaGreat.lx
