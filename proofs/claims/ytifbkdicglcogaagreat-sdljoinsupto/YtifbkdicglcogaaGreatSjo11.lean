import Derived.Test.YtifbkdicglcogaaGreatSjo10
set_option linter.unusedVariables false
set_option linter.unusedSimpArgs false
namespace Go.Proofs.YtifbkdicglcogaaGreat.sv
open Go.ChangeShapes Go.WideShapes Go.ChangeAt Go.RowKit
open mem
open ints (Hi uh)
theorem Lns.vals {w:World} {b off n c:Nat} {L:List (List Int)} (h:Lns w b off n c L):∃ vs:List Value,vs.length=n∧∀ i,i<n→w.cell? ⟨b,off+i,none⟩=some (vs.getD i undef)∧∃ bi oi ci,vs.getD i undef = .slice (some ⟨bi,oi,none⟩) (L.getD i []).length ci∧Row .i32 w (some ⟨bi,oi,none⟩) (L.getD i []).length ci (L.getD i []):=by
 refine⟨(List.range n).map (fun i=>(w.cell? ⟨b,off+i,none⟩).getD undef),by simp,fun i hi=>?_⟩
 obtain⟨ai,ci,h1,h2,bi,oi,rfl⟩:=h.at_ i hi
 have e:((List.range n).map (fun i=>(w.cell? ⟨b,off+i,none⟩).getD undef)).getD i undef = .slice (some ⟨bi,oi,none⟩) (L.getD i []).length ci:=by
  simp[List.getD,hi,h1]
 rw[e];exact⟨h1,bi,oi,ci,rfl,h2⟩
theorem Row.other {k:IntKind} {w:World} {q n c g i:Nat} {l:List Int} {v:Value} (h:Row k w (some ⟨q,0,none⟩) n c l) (hq:q ≠ g):Row k (w.setCell ⟨g,i,none⟩ v) (some ⟨q,0,none⟩) n c l:=by
 refine⟨h.len,h.le,h.nil,?_⟩
 rcases h.at_ with h0 | ⟨b',off',e,hb,hc⟩
 ·exact .inl h0
 ·simp only[Option.some.injEq,Addr.mk.injEq,and_true] at e
  obtain⟨rfl,rfl⟩:=e;refine .inr ⟨q,0,rfl,by simpa using hb,fun j hj=>?_⟩
  rw[← hc j hj];exact World.cell?_of_block (Below.heap_setCell _ _ _ _ hq)
theorem infoSS:(Tryz.prog.info? 78).map (fun i=>(i.zero,i.size,i.bytes))=some (some (.slice none 0 0),1,24):=by kernel_rfl
theorem sizeSS:(Tryz.prog.info? 78).map (·.size)=some 1:=by kernel_rfl
structure DdI (w wr:World) (G m k:Nat) (cs:List Value) (D:List (List Int)):Prop where
 own:∃ xs,wr.ownsRow w.heap.size 78 1 (.slice (some ⟨G,0,none⟩) m m) m xs∧(∀ j,j<k→∃ gj,gj ≠ G∧xs.getD j undef=lineVal gj (D.getD j [])∧Row .i32 wr (some ⟨gj,0,none⟩) (D.getD j []).length (D.getD j []).length (D.getD j []))∧(∀ j,k≤j→j<m→xs.getD j undef=cs.getD j undef)
 bel:Below w.heap.size w wr
theorem DdI.cell {w wr:World} {G m k:Nat} {cs:List Value} {D:List (List Int)} (h:DdI w wr G m k cs D) (hk:k<m):wr.cell? ⟨G,k,none⟩=some (cs.getD k undef):=by
 obtain⟨xs,h1,h2,h3⟩:=h.own;have hl:xs.length=m:=by have:=h1.1;omega
 rw[h1.cellAt k (by omega),← h3 k (lr _) hk]
 simp[List.getD,show k<xs.length by omega]
theorem DdI.step {w wr w4:World} {G m k p:Nat} {cs:List Value} {D:List (List Int)} {x:List Int} (h:DdI w wr G m k cs D) (hk:k<m) (hb:Below wr.heap.size wr w4)
  (hln:w4.ownsRow wr.heap.size 21 1 (.slice (some ⟨wr.heap.size,0,none⟩) p p) p (x.map (Value.int .i32))) (hx:D.getD k []=x) :
  (∃ v,w4.cell? ⟨G,k,none⟩=some v)∧w4.frozen? ⟨G,k,none⟩=false∧DdI w (w4.setCell ⟨G,k,none⟩ (.slice (some ⟨wr.heap.size,0,none⟩) p p)) G m (k+1) cs D:=by
 obtain⟨xs,h1,h2,h3⟩:=h.own;have hl:xs.length=m:=by have:=h1.1;omega
 have h4:=zay h1 hb;have hG:=h1.lt G rfl;have hp:p=x.length:=by have:=hln.1;simp at this;exact this.symm
 refine⟨⟨_,by rw[h4.cellAt k (by omega),List.getElem?_eq_getElem (by omega)]⟩,h4.frozenAt k,⟨⟨_,(h4.stored k _).1,fun j hj=>?_,fun j hj hj2=>?_⟩,(h.bel.trans (hb.mono h.bel.size)).setCell hG.1 _⟩⟩
 ·by_cases e:j=k
  ·subst e
   refine⟨wr.heap.size,by omega,?_,?_⟩
   ·rw[hx]
    unfold lineVal;rw[hp];simp[List.getD,show j<xs.length by omega]
   ·obtain⟨a,cp,e1,hrow⟩:=zcR hln
    simp only[Value.slice.injEq] at e1;obtain⟨rfl,_,rfl⟩:=e1;rw[hx,← hp];exact Row.other hrow (by omega)
  ·obtain⟨gj,g1,g2,g3⟩:=h2 j (by omega)
   refine⟨gj,g1,?_,Row.other (g3.below hb) g1⟩
   rw[← g2];simp[List.getD,show ¬ k=j from fun e'=>e e'.symm]
 ·rw[← h3 j (by omega) hj2]
  simp[List.getD,show ¬ k=j by omega]
theorem DdI.done {w wr:World} {G m:Nat} {cs:List Value} {D:List (List Int)} (h:DdI w wr G m m cs D) (hD:D.length=m):Lns wr G 0 m m D:=by
 obtain⟨xs,h1,h2,h3⟩:=h.own;have hl:xs.length=m:=by have:=h1.1;omega
 refine⟨hD,lr _,(h1.lt G rfl).2,fun i hi=>?_⟩
 obtain⟨gj,g1,g2,g3⟩:=h2 i hi;refine⟨_,_,?_,g3,_,_,rfl⟩
 rw[Nat.zero_add,h1.cellAt i (by omega),List.getElem?_eq_getElem (by omega)]
 have:xs.getD i undef=xs[i]'(by omega):=by simp[List.getD,show i<xs.length by omega]
 rw[← this,g2];rfl
set_option maxHeartbeats 8000000 in
set_option maxRecDepth 4000 in
theorem zjt (b n c:Nat) (L:List (List Int)) (w:World) (h:Lns w b 0 n c L) (h0:0<n) (hn:n≤1099511627777) (hm:∀ i,(L.getD i []).length≤1099511627776) :
  Calls Tryz.prog 102 #[.slice (some ⟨b,0,none⟩) n c] w fun e w'=>∃ g,e = .returned (.slice (some ⟨g,0,none⟩) (dd L).length (dd L).length)∧Lns w' g 0 (dd L).length (dd L).length (dd L)∧Below w.heap.size w w':=by
 obtain⟨i0,hi,hz0,hz1,hz2⟩:=info_parts infoSS;have HL:=Hi h.len;have hle:=h.le
 have hB:=Hi (show ∀ k,k<n→∃ ai ci,w.cell? ⟨b,k,none⟩=some (.slice ai (L.getD k []).length ci)∧Calls Tryz.prog 126 #[.slice ai (L.getD k []).length ci] w (fun e w'=>e = .returned (.bool (blk (L.getD k [])))∧w=w') from fun k hk=>by
  obtain⟨ai,ci,h1,h2,_⟩:=h.at_ k hk;rw[Nat.zero_add] at h1
  exact⟨ai,ci,h1,(zb0 ai _ ci _ w h2 (by have:=hm k;omega)).mono (fun e w' he=>⟨he.1,he.2.symm⟩)⟩)
 have hC:=Hi (zjp b n c L w h h0 (by omega) hm)
 have hcm:=zpg L _ hm;obtain⟨cm,hcme⟩:∃ cm,cm=cmI L:=⟨_,rfl⟩;rw[← hcme] at hC hcm;have HCM:=Hi hcme;clear hcme;obtain⟨vs,hvl,hvs⟩:=h.vals;have HV:=Hi hvs;have HVL:=Hi hvl;have hblt:=h.lt;clear hvs hvl
 go_enter Tryz.func102,Tryz.ntmps102
 go_wp2_with fail
 go_loopw [3] (fun i wr=>∃ k:Nat,k≤n∧i = .int .i64 k∧w=wr∧Hid (∀ j,j<k→blk (L.getD j [])=true)) (fun i _=>n - (intOf i).toNat)
 case atStart=>exact⟨0,Nat.zero_le _,rfl,rfl,Hi (fun j hj=>by omega)⟩
 case round =>
  obtain⟨f,hf,rfl,rfl,hF⟩:=hrel
  by_cases hlt:f<n
  ·obtain⟨ai,ci,h1,h2⟩:=(uh hB) f hlt
   have H2:=Hi h2;clear h2;have i1:(f:Int)<(n:Int):=by omega
   cases hb:blk (L.getD f [])
   ·rw[hb] at H2
    have Hb:=Hi hb;clear hb
    go_wp2_with fail
    refine (uh H2).mono ?_
    rintro e w1 ⟨rfl,rfl⟩;clear H2 h1
    go_wp2_with fail
    go_loopw [4] (fun i wr=>∃ k:Nat,f<k∧k≤n∧i = .int .i64 k∧w=wr∧Hid (∀ j,k≤j→j<n→blk (L.getD j [])=true)) (fun i _=>(intOf i).toNat)
    case atStart=>exact⟨n,hlt,lr _,rfl,rfl,Hi (fun j hj hj2=>by omega)⟩
    case round =>
     obtain⟨t,hft,ht,rfl,rfl,hT⟩:=hrel;obtain⟨s,rfl⟩:∃ s,t=s+1:=⟨t - 1,by omega⟩
     obtain⟨ai,ci,h1,h2⟩:=(uh hB) s (by omega)
     have H2:=Hi h2;clear h2;have es:((s+1:Nat):Int)=(s:Int)+1:=by omega
     have es2:((s+1:Nat):Int) - 1=(s:Int):=by omega
     have i2:(f:Int)<(s:Int)+1:=by omega
     have i3:(s:Int)<(n:Int):=by omega
     cases hb2:blk (L.getD s [])
     ·rw[hb2] at H2
      have Hb2:=Hi hb2;clear hb2
      go_wp2_with fail
      refine (uh H2).mono ?_
      rintro e w1 ⟨rfl,rfl⟩;clear H2 h1
      go_wp2_with fail
      refine (uh hC).mono ?_
      rintro e w1 ⟨rfl,b1⟩;clear hC;obtain⟨m,hm0⟩:∃ m:Nat,s+1=f+m:=⟨s+1 - f,by omega⟩
      have hmp:0<m:=by omega
      have i4:(s:Int)+1 - (f:Int)=(m:Int):=by omega
      have i5:(f:Int)≤(s:Int)+1:=by omega
      have i6:(s:Int)+1≤(c:Int):=by omega
      have hB1:=b1.size;have hcsl:((vs.drop f).take m).length=m:=by rw[List.length_take,List.length_drop,uh HVL];omega
      have HCS:=Hi (fun (W:World) (hb:Below w.heap.size w W) (j:Nat) (u:Value) (hu:((vs.drop f).take m)[j]? = some u)=>show W.cell? ((⟨b,f,none⟩:Addr).add j)=some u from by
       have hj:j<m:=by
        rcases Nat.lt_or_ge j m with h | h
        ·exact h
        ·rw[List.getElem?_eq_none (by rw[hcsl];exact h)] at hu;cases hu
       have hc1:=((uh HV) (f+j) (by omega)).1
       rw[List.getElem?_take,if_pos hj,List.getElem?_drop] at hu
       have e2:vs.getD (f+j) undef=u:=by rw[List.getD,hu];rfl
       rw[e2,Nat.zero_add] at hc1;have:=(hb.cell (p:=⟨b,f+j,none⟩) hblt).trans hc1;unfold Addr.add
       split
       ·rename_i hj0
        subst hj0
        simpa using this
       ·exact this)
      have HON:=Hi (show ∀ v ∈ (vs.drop f).take m,v.oneCell'=true from fun v hv=>by
       obtain⟨j,hj,rfl⟩:=List.mem_iff_getElem.1 hv;have hj2:j<m:=by rw[hcsl] at hj;exact hj
       obtain⟨_,bi,oi,ci,e1,_⟩:=(uh HV) (f+j) (by omega)
       have e2:((vs.drop f).take m)[j]=vs.getD (f+j) undef:=by
        have hjv:f+j<vs.length:=by rw[uh HVL];omega
        simp[List.getD,hjv]
       rw[e2,e1]
       rfl)
      have Hcsl:=Hi hcsl;clear hcsl;obtain⟨cs,hcs⟩:∃ cs,cs=(vs.drop f).take m:=⟨_,rfl⟩;rw[← hcs] at HCS HON Hcsl;have Hcs:=Hi hcs;clear hcs
      go_wp2_with (first
       | (refine wpList_make_full _ rfl _ _ 170 rfl w.heap.size 78 i0 (.slice none 0 0) 1 Tryz.underlying170 hi hz0 hz1 .i64 .i64 _ _ m rfl rfl (by omega) (by omega) (by rw[hz2];omega) (by unfold maxLen;omega) hB1 ?_;intro w2 hown hgrow;have hg1:=b1.trans ((belowNone hgrow).mono hB1);obtain⟨cur,hcur,hcz⟩:=zcx hown)
       | (refine wpList_copy_splice rfl _ _ 170 170 rfl 78 Tryz.underlying170 sizeSS _ _ m m m m rfl rfl w1.heap.size 0 cur.toList 78 hcur cs (by rw[uh Hcsl];exact (Nat.min_self m).symm) (fun hp=>⟨rfl,_,rfl,(uh HCS) _ hg1⟩) (by rw[uh Hcsl];simp;omega) (uh HON) w.heap.size w hg1 hB1 ?_;intro w3 hrow3 hb3))
      have Hm0:=Hi hm0;have hB3:=hb3.size
      have HD0:=Hi (show frm L=f∧trm L=(L.drop f).take m from ⟨zhP L f (by rw[uh HL];exact hf) (uh hF) (fun _=>uh Hb),by
       have:=zkK L f (s+1) (by omega) (by rw[uh HL];exact ht) (uh hF) (fun _=>uh Hb) (fun j hj hj2=>uh hT j hj (by rw[uh HL] at hj2;exact hj2)) (fun _=>uh Hb2)
       rw[this]
       congr 1
       omega⟩)
      have HDl:=Hi (show (dd L).length=m from by
       unfold dd;rw[zhD,(uh HD0).2,List.length_take,List.length_drop,uh HL]
       omega)
      have HD:=Hi (show ∀ k,k<m→(dd L).getD k []=if f+k=0 then L.getD (f+k) [] else (L.getD (f+k) []).drop cm from fun k hk=>by
       have hk2:k<(trm L).length:=by rw[(uh HD0).2,List.length_take,List.length_drop,uh HL];omega
       have e1:(trm L).getD k []=L.getD (f+k) []:=by
        rw[(uh HD0).2];simp[List.getD,hk]
       unfold dd
       rw[zlc _ _ _ _ hk2,(uh HD0).1,← uh HCM,e1])
      have hI0:DdI w w3 w1.heap.size m 0 cs (dd L):=by
       refine⟨⟨cs,?_,fun j hj=>by omega,fun j _ _=>rfl⟩,hb3⟩
       have:=hrow3.out;rw[zdC _ _ (by rw[uh Hcsl];simpa using hcz)] at this
       exact⟨by rw[uh Hcsl];omega,.inr ⟨w1.heap.size,m,_,rfl,hB1,this,lr _,by unfold maxLen;omega,by simp[uh Hcsl],by rw[Nat.mul_one];exact List.take_of_length_le (by simp[uh Hcsl])⟩⟩
      obtain⟨G,hG⟩:∃ G,G=w1.heap.size:=⟨_,rfl⟩;have hGb:w.heap.size≤G:=by omega
      rw[← hG] at hI0 ⊢;clear hG;have HI0:=Hi hI0;clear hI0 hrow3 hcur hcz hown hgrow hg1 hb3 HCS HON hB3 HD0 hT Hb2 hF Hb hm0
      go_loopw [52] (fun i wr=>∃ k:Nat,k≤m∧i = .int .i64 k∧DdI w wr G m k cs (dd L)) (fun i _=>m - (intOf i).toNat)
      case atStart=>exact⟨0,Nat.zero_le _,rfl,uh HI0⟩
      case round =>
       obtain⟨k,hk,rfl,hI⟩:=hrel
       by_cases hkm:k<m
       ·have hfk:f+k<n:=by have:=uh Hm0;omega
        obtain⟨_,bi,oi,ci,e1,hr⟩:=(uh HV) (f+k) hfk;have c1:=hI.cell hkm
        have e2:cs.getD k undef=vs.getD (f+k) undef:=by
         rw[uh Hcs];simp[List.getD,hkm]
        rw[e2,e1] at c1;have hdk:=Hi ((uh HD) k hkm);have hq:=hm (f+k);have hrb:=hr.below hI.bel;have hrl:=hr.len;obtain⟨lk,hlk⟩:∃ lk,lk=L.getD (f+k) []:=⟨_,rfl⟩;rw[← hlk] at c1 hdk hq hr hrb hrl;obtain⟨q,hqe⟩:∃ q,q=lk.length:=⟨_,rfl⟩;rw[← hqe] at c1 hq hr hrb hrl;have Hq:=Hi hqe;have hrle:=hr.le;have HR:=Hi hrb;have i7:(k:Int)<(m:Int):=by omega
        clear e1 e2 hr hrl hlk hqe hrb hfk;have zq:(0:Int)≤(q:Int):=by omega
        have qc:(q:Int)≤(ci:Int):=by omega
        by_cases hfk0:f+k=0
        ·have hfb:((f:Int)+(k:Int) == 0)=true:=by simp;omega
         have hdd:=Hi (show (dd L).getD k []=lk from by rw[uh hdk,if_pos hfk0])
         clear hdk hfk0
         by_cases hq0:q=0
         ·subst hq0
          have hl0:lk=[]:=List.eq_nil_of_length_eq_zero (uh Hq).symm;have N:=Hi (zdh (some ⟨bi,oi,none⟩) 0 0 [] wr (⟨rfl,lr _,(fun e=>by cases e),.inl rfl⟩) (by omega))
          have HX:=Hi (show (dd L).getD k []=[] from by rw[uh hdd,hl0])
          clear HR
          go_wp2_with fail
          refine (uh N).mono ?_
          rintro e w4 ⟨rfl,hln,hb4⟩;clear N;obtain⟨⟨u4v,c4⟩,f4,hnx⟩:=hI.step hkm hb4 hln (uh HX);have HN:=Hi hnx;clear hnx hln hb4 hI HX c1
          go_wp2
          go_roundw
          case rel=>exact⟨k+1,by omega,by go_num,uh HN⟩
          case measure=>first | (simp[intOf];omega) | simp[intOf]
         ·have j1:¬ q=0:=hq0
          have N:=Hi (zdh (some ⟨bi,oi,none⟩) q q lk wr (⟨(uh HR).len,lr _,(fun e=>by cases e),(uh HR).at_⟩) (by omega))
          have HX:=Hi (show (dd L).getD k []=lk from uh hdd)
          clear HR
          go_wp2_with fail
          refine (uh N).mono ?_
          rintro e w4 ⟨rfl,hln,hb4⟩;clear N;obtain⟨⟨u4v,c4⟩,f4,hnx⟩:=hI.step hkm hb4 hln (uh HX);have HN:=Hi hnx;clear hnx hln hb4 hI HX c1
          go_wp2
          go_roundw
          case rel=>exact⟨k+1,by omega,by go_num,uh HN⟩
          case measure=>first | (simp[intOf];omega) | simp[intOf]
        ·have hfb:((f:Int)+(k:Int) == 0)=false:=by simp;omega
         by_cases hcq:cm≤q
         ·have hdd:=Hi (show (dd L).getD k []=lk.drop cm from by rw[uh hdk,if_neg hfk0])
          clear hdk hfk0
          by_cases hceq:cm=q
          ·have hl0:=Hi (show lk.drop cm=[] from List.drop_eq_nil_of_le (by rw[← uh Hq];omega))
           subst hceq;have N:=Hi (zdh (some ⟨bi,oi,none⟩) 0 0 [] wr (⟨rfl,lr _,(fun e=>by cases e),.inl rfl⟩) (by omega))
           have HX:=Hi (show (dd L).getD k []=[] from by rw[uh hdd,uh hl0])
           clear HR
           go_wp2_with fail
           refine (uh N).mono ?_
           rintro e w4 ⟨rfl,hln,hb4⟩;clear N;obtain⟨⟨u4v,c4⟩,f4,hnx⟩:=hI.step hkm hb4 hln (uh HX);have HN:=Hi hnx;clear hnx hln hb4 hI HX c1
           go_wp2
           go_roundw
           case rel=>exact⟨k+1,by omega,by go_num,uh HN⟩
           case measure=>first | (simp[intOf];omega) | simp[intOf]
          ·have j1:cm<q:=by omega
           have mj:(cm:Int)<(q:Int):=by omega
           have mi:min (cm:Int) (q:Int)=(cm:Int):=by omega
           have j2:¬ q - cm=0:=by omega
           have hrw:=Hi (show Row .i32 wr (some ⟨bi,oi+cm,none⟩) (q - cm) (q - cm) (lk.drop cm) from by
            have:=lx.zfQ (uh HR) cm q (by omega) (lr _)
            have e:lx.insZ lk cm q=lk.drop cm:=by unfold lx.insZ;exact List.take_of_length_le (by rw[List.length_drop,← uh Hq];omega)
            rw[e] at this
            exact⟨this.len,lr _,(fun e=>by cases e),this.at_⟩)
           clear hceq;have N:=Hi (zdh (some ⟨bi,oi+cm,none⟩) (q - cm) (q - cm) (lk.drop cm) wr (uh hrw) (by omega))
           have HX:=Hi (show (dd L).getD k []=(lk.drop cm) from uh hdd)
           clear HR
           go_wp2_with fail
           refine (uh N).mono ?_
           rintro e w4 ⟨rfl,hln,hb4⟩;clear N;obtain⟨⟨u4v,c4⟩,f4,hnx⟩:=hI.step hkm hb4 hln (uh HX);have HN:=Hi hnx;clear hnx hln hb4 hI HX c1
           go_wp2
           go_roundw
           case rel=>exact⟨k+1,by omega,by go_num,uh HN⟩
           case measure=>first | (simp[intOf];omega) | simp[intOf]
         ·have hdd:=Hi (show (dd L).getD k []=[] from by rw[uh hdk,if_neg hfk0,List.drop_eq_nil_of_le (by rw[← uh Hq];omega)])
          clear hdk hfk0;have mj:(q:Int)<(cm:Int):=by omega
          have mi:min (cm:Int) (q:Int)=(q:Int):=by omega
          have N:=Hi (zdh (some ⟨bi,oi,none⟩) 0 0 [] wr (⟨rfl,lr _,(fun e=>by cases e),.inl rfl⟩) (by omega))
          have HX:=Hi (show (dd L).getD k []=[] from uh hdd)
          clear HR
          go_wp2_with fail
          refine (uh N).mono ?_
          rintro e w4 ⟨rfl,hln,hb4⟩;clear N;obtain⟨⟨u4v,c4⟩,f4,hnx⟩:=hI.step hkm hb4 hln (uh HX);have HN:=Hi hnx;clear hnx hln hb4 hI HX c1
          go_wp2
          go_roundw
          case rel=>exact⟨k+1,by omega,by go_num,uh HN⟩
          case measure=>first | (simp[intOf];omega) | simp[intOf]
       ·obtain rfl:k=m:=by omega
        have i7:¬ (k:Int)<(k:Int):=by omega
        go_wp2
        go_ret
        rw[uh HDl];exact⟨G,rfl,hI.done (uh HDl),hI.bel⟩
     ·rw[hb2] at H2
      have Hb2:=Hi hb2;have hsf:s ≠ f:=fun e=>by rw[e] at hb2;rw[uh Hb] at hb2;cases hb2
      clear hb2
      go_wp2_with fail
      refine (uh H2).mono ?_
      rintro e w1 ⟨rfl,rfl⟩;clear H2 h1
      go_wp2_with fail
      refine⟨⟨s,by omega,by omega,by first | rfl | (congr 1;omega),trivial,Hi (fun j hj hj2=>?_)⟩,by simp only[intOf];omega⟩
      by_cases e:j=s
      ·rw[e];exact uh Hb2
      ·exact uh hT j (by omega) hj2
   ·rw[hb] at H2
    have Hb:=Hi hb;clear hb
    go_wp2_with fail
    refine (uh H2).mono ?_
    rintro e w1 ⟨rfl,rfl⟩;clear H2 h1
    go_wp2_with fail
    refine⟨⟨f+1,by omega,rfl,trivial,Hi (fun j hj=>?_)⟩,by simp only[intOf];omega⟩
    by_cases e:j=f
    ·rw[e];exact uh Hb
    ·exact uh hF j (by omega)
  ·obtain rfl:f=n:=by omega
   have HDl:=Hi (show dd L=[] from by
    have e:=zkK L f f (lr _) (by rw[uh HL];exact lr _) (uh hF) (fun h=>by omega) (fun j hj hj2=>by rw[uh HL] at hj2;omega) (fun h=>by omega)
    rw[Nat.sub_self,List.take_zero] at e;unfold dd;rw[e]
    exact List.eq_nil_of_length_eq_zero (zhD _ _ _))
   have i1:¬ (f:Int)<(f:Int):=by omega
   go_wp2_with fail
   go_loopw [4] (fun i wr=>i = .int .i64 f∧w=wr) (fun i _=>(intOf i).toNat)
   case atStart=>exact⟨rfl,rfl⟩
   case round =>
    obtain⟨rfl,rfl⟩:=hrel
    go_wp2_with fail
    refine (uh hC).mono ?_
    rintro e w1 ⟨rfl,b1⟩;clear hC;have hB1:=b1.size;have i5:(f:Int)≤(c:Int):=by omega
    by_cases hfc:f=c
    ·subst hfc
     go_wp2_with (first
      | (refine wpList_make_full _ rfl _ _ 170 rfl w.heap.size 78 i0 (.slice none 0 0) 1 Tryz.underlying170 hi hz0 hz1 .i64 .i64 _ _ 0 rfl rfl (by omega) (by omega) (by rw[hz2];omega) (by unfold maxLen;omega) hB1 ?_;intro w2 hown hgrow;have hg1:=b1.trans ((belowNone hgrow).mono hB1);obtain⟨cur,hcur,hcz⟩:=zcx hown)
      | (refine wpList_copy_splice rfl _ _ 170 170 rfl 78 Tryz.underlying170 sizeSS _ _ 0 0 0 0 rfl rfl w1.heap.size 0 cur.toList 78 hcur [] (by rfl) (fun hp=>by simp at hp) (by simp) (fun v hv=>by cases hv) w.heap.size w hg1 hB1 ?_;intro w3 hrow3 hb3))
     obtain⟨G,hG⟩:∃ G,G=w1.heap.size:=⟨_,rfl⟩
     have HG:=Hi (show G<w3.heap.size from by
      have:=hrow3.out
      rcases Nat.lt_or_ge w1.heap.size w3.heap.size with h | h
      ·omega
      ·rw[Array.getElem?_eq_none h] at this;cases this)
     rw[← hG];clear hG hrow3
     go_loopw [52] (fun i wr=>i = .int .i64 0∧w3=wr) (fun i _=>(intOf i).toNat)
     case atStart=>exact⟨rfl,rfl⟩
     case round =>
      obtain⟨rfl,rfl⟩:=hrel
      go_wp2
      go_ret
      rw[uh HDl];exact⟨G,rfl,Lns.nil0 (uh HG),hb3⟩
    ·have hfc2:f<c:=by omega
     go_wp2_with (first
      | (refine wpList_make_full _ rfl _ _ 170 rfl w.heap.size 78 i0 (.slice none 0 0) 1 Tryz.underlying170 hi hz0 hz1 .i64 .i64 _ _ 0 rfl rfl (by omega) (by omega) (by rw[hz2];omega) (by unfold maxLen;omega) hB1 ?_;intro w2 hown hgrow;have hg1:=b1.trans ((belowNone hgrow).mono hB1);obtain⟨cur,hcur,hcz⟩:=zcx hown)
      | (refine wpList_copy_splice rfl _ _ 170 170 rfl 78 Tryz.underlying170 sizeSS _ _ 0 0 0 0 rfl rfl w1.heap.size 0 cur.toList 78 hcur [] (by rfl) (fun hp=>by simp at hp) (by simp) (fun v hv=>by cases hv) w.heap.size w hg1 hB1 ?_;intro w3 hrow3 hb3))
     obtain⟨G,hG⟩:∃ G,G=w1.heap.size:=⟨_,rfl⟩
     have HG:=Hi (show G<w3.heap.size from by
      have:=hrow3.out
      rcases Nat.lt_or_ge w1.heap.size w3.heap.size with h | h
      ·omega
      ·rw[Array.getElem?_eq_none h] at this;cases this)
     rw[← hG];clear hG hrow3
     go_loopw [52] (fun i wr=>i = .int .i64 0∧w3=wr) (fun i _=>(intOf i).toNat)
     case atStart=>exact⟨rfl,rfl⟩
     case round =>
      obtain⟨rfl,rfl⟩:=hrel
      go_wp2
      go_ret
      rw[uh HDl];exact⟨G,rfl,Lns.nil0 (uh HG),hb3⟩
def sz:List (List Int)→Nat
 | []=>0
 | x :: L=>x.length+1+sz L
theorem zm9 (A B:List (List Int)):sz (A ++ B)=sz A+sz B:=by
 induction A with
 | nil=>simp[sz]
 | cons x A ih=>simp only[List.cons_append,sz,ih];omega
theorem zpG:∀ (L:List (List Int)),(jn L).length≤sz L - 1
 | []=>by simp[jn]
 | [x]=>by simp[jn,sz]
 | x :: y :: r=>by
  have ih:=zpG (y :: r);rw[jn,sz];simp only[List.length_append,List.length_cons];have:1≤sz (y :: r):=by simp only[sz];omega
  omega
theorem zjW:∀ (L:List (List Int)),L.length≤sz L
 | []=>by simp[sz]
 | x :: L=>by have:=zjW L;simp only[List.length_cons,sz];omega
theorem zmC:∀ (L:List (List Int)) (i:Nat),(L.getD i []).length≤sz L - 1
 | [],i=>by simp
 | x :: L,0=>by simp only[sz,List.getD_cons_zero];omega
 | x :: L,i+1=>by
  have:=zmC L i;simp only[sz,List.getD_cons_succ];omega
theorem zkE (c:Nat):∀ (L:List (List Int)),sz (L.map (List.drop c))≤sz L
 | []=>by simp[sz]
 | x :: L=>by have:=zkE c L;simp only[List.map_cons,sz,List.length_drop];omega
theorem zoF (f c:Nat) (L:List (List Int)):sz (cutF f c L)≤sz L:=by
 unfold cutF
 split
 ·cases L with
  | nil=>simp[cutL]
  | cons x L=>have:=zkE c L;simp only[cutL,sz];omega
 ·exact zkE c L
theorem zqh (L:List (List Int)):sz (trm L)≤sz L:=by
 rcases zl1 L with ⟨h,_⟩ | ⟨A,B,h,_⟩
 ·rw[h];simp[sz]
 ·have:sz L=sz (A ++ trm L ++ B):=by rw[← h]
  rw[this,zm9,zm9];omega
theorem zrx (L:List (List Int)):sz (dd L)≤sz L:=Nat.le_trans (zoF _ _ _) (zqh L)
theorem zqg (c:Int) (L:List (List Int)) (h:L ≠ []):sz (pre c L)=sz L+1:=by
 cases L with
 | nil=>exact absurd rfl h
 | cons x L=>simp only[pre,sz,List.length_cons];omega
theorem zna:∀ (l:List Int),sz (lns l)≤l.length+1
 | []=>by simp[lns,sz]
 | c :: r=>by
  have ih:=zna r;rw[lns]
  split
  ·simp only[sz,List.length_nil,List.length_cons];omega
  ·split
   ·split
    ·simp only[List.length_cons];omega
    ·simp only[sz,List.length_nil,List.length_cons];omega
   ·rw[zqg c _ (zj4 r),List.length_cons];omega
theorem zdS:∀ (k:Nat) (l:List Int) (q:Nat) (o:Bool) (r:List Int × Bool),lx.blkF k l q o=some r→r.1.length≤l.length
 | 0,l,q,o,r,h=>by
  unfold lx.blkF at h
  split at h
  ·simp at h;subst h;simp
  ·cases h
 | k+1,l,q,o,r,h=>by
  unfold lx.blkF at h
  split at h
  ·simp at h;subst h;simp
  ·rename_i h0
   split at h
   ·rename_i he
    have h4:=lx.zg3 l he
    cases e:lx.blkF k (l.drop 4) 0 false with
    | none=>rw[e] at h;cases h
    | some r2 =>
     rw[e] at h;simp at h;subst h;have:=zdS k _ _ _ _ e;simp at this ⊢;omega
   ·split at h
    ·split at h
     ·cases h
     ·cases e:lx.blkF k (l.drop 1) (q+1) true with
      | none=>rw[e] at h;cases h
      | some r2 =>
       rw[e] at h;simp at h;subst h;have:=zdS k _ _ _ _ e;simp at this ⊢;omega
    ·split at h
     ·cases h
     ·cases e:lx.blkF k (l.drop 1) 0 (decide (lx.cAt l 0=92)) with
      | none=>rw[e] at h;cases h
      | some r2 =>
       rw[e] at h;simp at h;subst h;have:=zdS k _ _ _ _ e;simp at this ⊢;omega
theorem znp (l:List Int) (r:List Int × Bool) (h:lx.blk l=some r):r.1.length≤l.length:=zdS _ _ _ _ _ h
def bS (l:List Int):ByteArray:=match lx.blk l with
 | some (r,true)=>encS (jn (dd (lns r)))
 | _=>⟨#[]⟩
def bE (l:List Int):Int:=match lx.blk l with
 | some (_,true)=>0
 | _=>60
set_option maxHeartbeats 4000000 in
theorem zk1 (a:Option Addr) (n c:Nat) (l:List Int) (w:World) (h:Row .i32 w a n c l) (hn:n≤1099511627776) :
  Calls Tryz.prog 81 #[.slice a n c] w fun e w'=>e = .returned (.tuple #[.string (bS l),.int .i64 (bE l)])∧Below w.heap.size w w':=by
 have HB:=Hi (lx.zfh a n c l w h hn);have hl:=h.len;unfold bS bE;unfold lx.BlkPost at HB
 cases e:lx.blk l with
 | none =>
  rw[e] at HB;clear e
  go_enter Tryz.func81,Tryz.ntmps81
  go_wp2_with fail
  refine (uh HB).mono ?_
  rintro e w1 ⟨rfl,b1⟩;clear HB
  go_wp2
  go_ret2
  exact⟨rfl,b1⟩
 | some r =>
  have hr:=znp l r e;rw[e] at HB;clear e;obtain⟨r,o⟩:=r;simp only at hr
  cases o with
  | false =>
   go_enter Tryz.func81,Tryz.ntmps81
   go_wp2_with fail
   refine (uh HB).mono ?_
   rintro e w1 ⟨⟨v,rfl,_⟩,b1⟩;clear HB
   go_wp2
   go_ret2
   exact⟨rfl,b1⟩
  | true =>
   have z1:=zna r;have z2:=zrx (lns r);have z3:=zpG (dd (lns r));have z4:=zjW (lns r);have z5:=zjW (dd (lns r));have z6:0<(lns r).length:=List.length_pos_iff.2 (zj4 r);have HZ:=Hi (show ∀ i,((lns r).getD i []).length≤1099511627776 from fun i=>by have:=zmC (lns r) i;omega)
   go_enter Tryz.func81,Tryz.ntmps81
   go_wp2_with fail
   refine (uh HB).mono ?_
   rintro e w1 ⟨⟨v,rfl,hown⟩,b1⟩;clear HB;obtain⟨a1,c1,rfl,hrow⟩:=zcR hown;clear hown;simp only
   go_wp2_with fail
   refine (zjY a1 _ c1 r w1 hrow (by omega)).mono ?_
   rintro e w2 ⟨v2,gs,rfl,hat,b2⟩;rw[zjX] at hat;obtain⟨b,c2,rfl,hln⟩:=zpR hat z6;clear hat;have b12:=b1.trans (b2.mono b1.size)
   generalize hL:lns r=L at *
   have HLr:=Hi hL;clear hL
   go_wp2_with fail
   refine (zjt b _ c2 L w2 hln z6 (by omega) (uh HZ)).mono ?_
   rintro e w3 ⟨g,rfl,hln3,b3⟩;have b13:=b12.trans (b3.mono b12.size)
   generalize hD:dd L=D at *
   have HDr:=Hi hD;clear hD
   go_wp2_with fail
   refine (zjR g 0 _ _ D w3 hln3 (by omega) (by omega)).mono ?_
   rintro e w4 ⟨v4,rfl,hown4,b4⟩;have b14:=b13.trans (b4.mono b13.size);obtain⟨a4,c4,rfl,hrow4⟩:=zcR hown4;clear hown4
   go_wp2_with fail
   refine (zbV a4 _ c4 (jn D) w4 hrow4 (by omega)).mono ?_
   rintro e w5 ⟨rfl,b5⟩;have b15:=b14.trans (b5.mono b14.size)
   go_wp2
   go_ret2
   exact⟨by rw[uh HLr,uh HDr];rfl,b15⟩
end Go.Proofs.YtifbkdicglcogaaGreat.sv
namespace Go.Proofs.YtifbkdicglcogaaGreat.lx
open Go.ChangeShapes Go.WideShapes Go.ChangeAt Go.RowKit
open ints (Hi uh hexV)
open mem
set_option maxHeartbeats 4000000 in
set_option maxRecDepth 4000 in
theorem zqa (a:Option Addr) (n c:Nat) (cl:Bool) (l:List Int) (p:Nat) (w:World) (h:Row .i32 w a n c l) (hn:n≤1099511627776) (hp:p<n) (hs:∀ x ∈ l,scP x) :
  Calls Tryz.prog 64 #[src a n c cl,.int .i64 (p:Int)] w fun e w'=>e = .returned (.tuple #[.int .i64 (qtd l p).1,.int .i64 ((qtd l p).2.1:Int),.string (qtd l p).2.2])∧Below w.heap.size w w':=by
 have hl:=Hi h.len;have hle:=h.le
 obtain⟨b,off,rfl⟩:∃ b off,a=some ⟨b,off,none⟩:=by
  rcases h.at_ with h1 | ⟨b,off,e,_⟩
  ·omega
  ·exact⟨b,off,e⟩
 have HS:=Hi hs;clear hs;obtain⟨R,hR⟩:∃ R,R=endQ l (n+2) (p+1):=⟨_,rfl⟩;have HQ:=Hi (show qtd l p=qtdR l p R from by unfold qtd;rw[uh hl,hR])
 have HR:=Hi hR.symm;clear hR;unfold src;have hsb:=Hi (Sb.new w (some ⟨b,off,none⟩) n c cl)
 go_enter Tryz.func64,Tryz.ntmps64
 go_wp2_with fail
 obtain⟨w1,hw1⟩:∃ w1,w1=w.alloc (.cells #[.slice (some ⟨b,off,none⟩) n c,.bool cl] 82):=⟨_,rfl⟩;rw[← hw1] at hsb ⊢;clear hw1
 go_loopg [8] (n+1) (fun g vi wr=>∃ k fu:Nat,p+1≤k∧k≤n∧n+1≤g+k∧n+1≤fu+k∧vi = .int .i64 k∧Hid (endQ l fu k=R)∧Sb w wr (some ⟨b,off,none⟩) n c cl)
 case atStart=>exact⟨p+1,n+2,by omega,by omega,by omega,by omega,by go_num,HR,uh hsb⟩
 case round =>
  obtain⟨k,fu,hpk,hk,hg,hf,rfl,hik,hs⟩:=hrel;obtain⟨f2,rfl⟩:∃ f2,fu=f2+1:=⟨fu - 1,by omega⟩
  have hik':=Hi (show (if cAt l k=34 then some k
   else if cAt l k=92 then (if cAt l (k+1)=10∨cAt l (k+1)=13∨soB (cAt l (k+1))=false then none else endQ l f2 (k+2))
   else if cAt l k=10∨cAt l k=13∨soB (cAt l k)=false then none else endQ l f2 (k+1))=R from uh hik)
  clear hik;have d0:=hs.c0;have d1:=hs.c1
  go_wp2_with fail
  refine (zd3 _ n c cl l k wr (h.below hs.bel) (by omega)).mono ?_
  rintro e w2 ⟨rfl,b2⟩;have hs2:=hs.below b2;obtain⟨x,hx⟩:∃ x,x=cAt l k:=⟨_,rfl⟩;rw[← hx] at hik' ⊢;have Hx:=Hi hx.symm;clear hx hs d0 d1;have d0:=hs2.c0;have d1:=hs2.c1
  by_cases h34:x=34
  ·have hRk:=Hi (show R=some k from by rw[← uh hik',if_pos h34])
   have hkn:k<n:=by rw[← uh hl];exact zjj l k (by rw[uh Hx,h34])
   have kc:(k:Int)≤(c:Int):=by omega
   have pc:¬ c=p+1:=by omega
   have HU:=Hi (zky _ _ _ _ w2 ((zfQ h (p+1) k hpk (by omega)).below hs2.bel) (by omega) (fun x hx=>uh HS x (List.mem_of_mem_drop (List.mem_of_mem_take hx))))
   have HB:=Hi (fun W=>zbS p W)
   subst h34;clear hik' Hx
   go_wp2_with fail
   refine (uh HU).mono ?_
   rintro e w3 ⟨rfl,b3⟩
   cases hq:quo (insZ l (p+1) k) with
   | none =>
    have HF:=Hi (show qtd l p=(1,p,⟨#[]⟩) from by rw[uh HQ,uh hRk];unfold qtdR;simp only[hq])
    rw[show quoS (insZ l (p+1) k)=⟨#[]⟩ from by unfold quoS;rw[hq],show quoE (insZ l (p+1) k)=60 from by unfold quoE;rw[hq]]
    clear hq
    go_wp2_with fail
    refine (uh HB _).mono ?_
    rintro e w4 ⟨rfl,rfl⟩
    go_wp2_with fail
    go_ret3
    exact⟨by rw[uh HF];rfl,hs2.bel.trans (b3.mono hs2.bel.size)⟩
   | some r =>
    have HF:=Hi (show qtd l p=(6,k+1,encS r) from by rw[uh HQ,uh hRk];unfold qtdR;simp only[hq])
    rw[show quoS (insZ l (p+1) k)=encS r from by unfold quoS;rw[hq],show quoE (insZ l (p+1) k)=0 from by unfold quoE;rw[hq]]
    clear hq
    go_wp2_with fail
    go_ret3
    exact⟨by rw[uh HF];rfl,hs2.bel.trans (b3.mono hs2.bel.size)⟩
  ·have e34:(x != 34)=true:=by simpa using h34
   go_wp2_with fail
   refine (zd3 _ n c cl l k w2 (h.below hs2.bel) (by omega)).mono ?_
   rintro e w3 ⟨rfl,b3⟩;rw[uh Hx];have hs3:=hs2.below b3;clear d0 d1;have d0:=hs3.c0;have d1:=hs3.c1
   by_cases h92:x=92
   ·subst h92
    have hik1:=Hi (show (if cAt l (k+1)=10∨cAt l (k+1)=13∨soB (cAt l (k+1))=false then none else endQ l f2 (k+2))=R from by
     have e:=uh hik';rw[if_neg (show ¬ (92:Int)=34 by decide),if_pos rfl] at e
     exact e)
    clear hik' Hx h34 e34;obtain⟨x,hx⟩:∃ x,x=cAt l (k+1):=⟨_,rfl⟩;have hik2:=Hi (show (if x=10∨x=13∨soB x=false then none else endQ l f2 (k+2))=R from by rw[hx];exact uh hik1)
    have Hx:=Hi hx.symm;clear hx hik1
    go_wp2_with fail
    rw[show ((k:Int)+1)=((k+1:Nat):Int) by omega]
    refine (zd3 _ n c cl l (k+1) w3 (h.below hs3.bel) (by omega)).mono ?_
    rintro e w4 ⟨rfl,b4⟩;rw[uh Hx];have hs4:=hs3.below b4;clear d0 d1;have d0:=hs4.c0;have d1:=hs4.c1
    by_cases hc:x=10∨x=13
    ·have HF:=Hi (show qtd l p=(1,p,⟨#[]⟩) from by rw[uh HQ,← uh hik2,if_pos (by rcases hc with e | e;exact .inl e;exact .inr (.inl e))];rfl)
     have HB:=Hi (fun W=>zbS p W)
     clear hik2 Hx
     rcases hc with rfl | rfl
     ·go_wp2_with fail
      refine (uh HB _).mono ?_
      rintro e w5 ⟨rfl,rfl⟩
      go_wp2_with fail
      go_ret3
      exact⟨by rw[uh HF];rfl,hs4.bel⟩
     ·go_wp2_with fail
      refine (uh HB _).mono ?_
      rintro e w5 ⟨rfl,rfl⟩
      go_wp2_with fail
      go_ret3
      exact⟨by rw[uh HF];rfl,hs4.bel⟩
    have g1:(x == 10)=false:=by simp;exact fun e=>hc (.inl e)
    have g2:(x == 13)=false:=by simp;exact fun e=>hc (.inr e)
    have n1:¬ x=10:=fun e=>hc (.inl e)
    have n2:¬ x=13:=fun e=>hc (.inr e)
    clear hc
    go_wp2_with fail
    refine (zbj x _).mono ?_
    rintro e w5 ⟨rfl,rfl⟩
    cases hsx:soB x with
    | false =>
     have HF:=Hi (show qtd l p=(1,p,⟨#[]⟩) from by rw[uh HQ,← uh hik2,if_pos (.inr (.inr hsx))];rfl)
     have HB:=Hi (fun W=>zbS p W)
     clear hik2 Hx hsx
     go_wp2_with fail
     refine (uh HB _).mono ?_
     rintro e w6 ⟨rfl,rfl⟩
     go_wp2_with fail
     go_ret3
     exact⟨by rw[uh HF];rfl,hs4.bel⟩
    | true =>
     have hkn:k+1<n:=by rw[← uh hl];exact zhB l (k+1) (by rw[uh Hx,hsx])
     have hik3:=Hi (show endQ l f2 (k+2)=R from by rw[← uh hik2,if_neg (fun e=>by rcases e with e | e | e;exact n1 e;exact n2 e;rw[hsx] at e;cases e)])
     clear hik2 Hx hsx
     go_wp2_with fail
     go_roundg (gk - 1)
     case rel=>exact⟨k+2,f2,by omega,by omega,by omega,by omega,by go_num,hik3,hs4⟩
     case measure=>omega
   ·have e92:(x == 92)=false:=by simpa using h92
    have hik2:=Hi (show (if x=10∨x=13∨soB x=false then none else endQ l f2 (k+1))=R from by rw[← uh hik',if_neg h34,if_neg h92])
    clear hik'
    go_wp2_with fail
    refine (zd3 _ n c cl l k w3 (h.below hs3.bel) (by omega)).mono ?_
    rintro e w4 ⟨rfl,b4⟩;rw[uh Hx];have hs4:=hs3.below b4;clear d0 d1;have d0:=hs4.c0;have d1:=hs4.c1
    by_cases hc:x=10∨x=13
    ·have HF:=Hi (show qtd l p=(1,p,⟨#[]⟩) from by rw[uh HQ,← uh hik2,if_pos (by rcases hc with e | e;exact .inl e;exact .inr (.inl e))];rfl)
     have HB:=Hi (fun W=>zbS p W)
     clear hik2 Hx
     rcases hc with rfl | rfl
     ·go_wp2_with fail
      refine (uh HB _).mono ?_
      rintro e w5 ⟨rfl,rfl⟩
      go_wp2_with fail
      go_ret3
      exact⟨by rw[uh HF];rfl,hs4.bel⟩
     ·go_wp2_with fail
      refine (uh HB _).mono ?_
      rintro e w5 ⟨rfl,rfl⟩
      go_wp2_with fail
      go_ret3
      exact⟨by rw[uh HF];rfl,hs4.bel⟩
    have g1:(x == 10)=false:=by simp;exact fun e=>hc (.inl e)
    have g2:(x == 13)=false:=by simp;exact fun e=>hc (.inr e)
    have n1:¬ x=10:=fun e=>hc (.inl e)
    have n2:¬ x=13:=fun e=>hc (.inr e)
    clear hc
    go_wp2_with fail
    refine (zbj x _).mono ?_
    rintro e w5 ⟨rfl,rfl⟩
    cases hsx:soB x with
    | false =>
     have HF:=Hi (show qtd l p=(1,p,⟨#[]⟩) from by rw[uh HQ,← uh hik2,if_pos (.inr (.inr hsx))];rfl)
     have HB:=Hi (fun W=>zbS p W)
     clear hik2 Hx hsx
     go_wp2_with fail
     refine (uh HB _).mono ?_
     rintro e w6 ⟨rfl,rfl⟩
     go_wp2_with fail
     go_ret3
     exact⟨by rw[uh HF];rfl,hs4.bel⟩
    | true =>
     have hkn:k<n:=by rw[← uh hl];exact zhB l k (by rw[uh Hx,hsx])
     have hik3:=Hi (show endQ l f2 (k+1)=R from by rw[← uh hik2,if_neg (fun e=>by rcases e with e | e | e;exact n1 e;exact n2 e;rw[hsx] at e;cases e)])
     clear hik2 Hx hsx
     go_wp2_with fail
     go_roundg (gk - 1)
     case rel=>exact⟨k+1,f2,by omega,by omega,by omega,by omega,by go_num,hik3,hs4⟩
     case measure=>omega
open ints (Hi uh)
open mem (Row)
def E0:ByteArray:=⟨#[]⟩
def rdG (l:List Int) (cl:Bool) (i:Nat):Int × Nat × ByteArray:=
 if i=l.length∧cl=true then (0,i,E0)
 else if cAt l i=46 then (if cAt l (i+1)=46∧cAt l (i+2)=46 then (2,i+3,E0) else (1,i,E0))
 else if puB (cAt l i) then (2,i+1,E0)
 else if nsB (cAt l i) then (3,nam l (i+1),E0)
 else if cAt l i=45∨mem.digB (cAt l i) then ((num l i).1,(num l i).2,E0)
 else if tq l i=true then blc sv.bS l i
 else if cAt l i=34 then qtd l i
 else (1,i,E0)
set_option maxHeartbeats 8000000 in
theorem zqb (a:Option Addr) (n c:Nat) (cl:Bool) (l:List Int) (i:Nat) (w:World) (h:Row .i32 w a n c l) (hn:n≤1099511627776) (hi:i≤n) (hs:∀ x ∈ l,mem.scP x) :
  Calls Tryz.prog 37 #[src a n c cl,.int .i64 (i:Int)] w fun e w'=>e = .returned (.tuple #[.int .i64 (rdG l cl i).1,.int .i64 ((rdG l cl i).2.1:Nat),.string (rdG l cl i).2.2])∧Below w.heap.size w w':=by
 have hl:=Hi h.len;have hsb:=Hi (Sb.new w a n c cl)
 have hN:=Hi (show rdG l cl i=(if i=l.length∧cl=true then (0,i,E0)
  else if cAt l i=46 then (if cAt l (i+1)=46∧cAt l (i+2)=46 then (2,i+3,E0) else (1,i,E0))
  else if puB (cAt l i) then (2,i+1,E0)
  else if nsB (cAt l i) then (3,nam l (i+1),E0)
  else if cAt l i=45∨mem.digB (cAt l i) then ((num l i).1,(num l i).2,E0)
  else if tq l i=true then blc sv.bS l i
  else if cAt l i=34 then qtd l i
  else (1,i,E0)) from rfl)
 obtain⟨N,hNe⟩:∃ N,N=rdG l cl i:=⟨_,rfl⟩;rw[← hNe] at hN ⊢;clear hNe;have hA:=Hi (fun W (hb:Below w.heap.size w W) (k:Nat)=>zd3 a n c cl l k W (h.below hb) (by omega))
 have hxs:mem.scP (cAt l i)∨cAt l i = -1:=by
  rcases Nat.lt_or_ge i l.length with h1 | h1
  ·left
   rw[zf9 h1];exact hs _ (by rw[List.getD_eq_getElem?_getD,List.getElem?_eq_getElem h1];exact List.getElem_mem h1)
  ·exact .inr (zaW h1)
 have hend:i=n→cAt l i = -1∧tq l i=false:=fun e=>by
  have h1:cAt l i = -1:=zaW (by rw[h.len];omega)
  refine⟨h1,?_⟩
  unfold tq;rw[h1];simp
 have htq:=Hi (fun W (hb:Below w.heap.size w W)=>zqm a n c cl l i W (h.below hb) hn (by omega))
 have hbc:=Hi (fun W (hb:Below w.heap.size w W) (ht:tq l i=true)=>zo4 sv.bS sv.bE (fun a n c l w h hn _=>sv.zk1 a n c l w h hn) a n c cl l i W (h.below hb) hn (by have:=zgQ l i ht;rw[h.len] at this;omega) hs)
 have hqt:=Hi (fun W (hb:Below w.heap.size w W) (hlt:i<n)=>zqa a n c cl l i W (h.below hb) hn hlt hs)
 have hct:=Hi (fun W=>zga (cAt l i) W hxs)
 obtain⟨x,hx⟩:∃ x,x=cAt l i:=⟨_,rfl⟩;have hX:=Hi hx;rw[← hx] at hN hend hct;clear hx hxs hs;unfold src
 go_enter Tryz.func37,Tryz.ntmps37
 go_wp2_with fail
 obtain⟨w1,hw1⟩:∃ w1,w1=w.alloc (.cells #[.slice a n c,.bool cl] 82):=⟨_,rfl⟩;rw[← hw1] at hsb ⊢;clear hw1;refine ((uh hA) w1 (uh hsb).bel i).mono ?_
 rintro e w2 ⟨rfl,b2⟩;have hs2:=(uh hsb).below b2;rw[← uh hX];have d0:=hs2.c0;have d1:=hs2.c1;have F:∀ (T:Nat) (V:ByteArray) (K:Int),N=(K,T,V)→Ending.returned (.tuple #[.int .i64 K,.int .i64 (T:Int),.string V]) = .returned (.tuple #[.int .i64 N.1,.int .i64 (N.2.1:Nat),.string N.2.2]):=fun T V K e=>by rw[e]
 have HF:=Hi F;clear F
 by_cases hin:i=n
 ·obtain⟨hx1,htf⟩:=hend hin
  cases cl with
  | true =>
   have hN2:=Hi (show N=(0,i,E0) from by rw[uh hN,if_pos ⟨by rw[uh hl];exact hin,rfl⟩])
   subst hin;clear hx1 htf hend
   go_wp2_with fail
   go_ret3
   exact⟨(uh HF) _ _ _ (uh hN2),hs2.bel⟩
  | false =>
   have hN2:=Hi (show N=(1,i,E0) from by
    rw[uh hN,if_neg (fun e=>by cases e.2),hx1,htf]
    rfl)
   rw[htf] at htq;rw[hx1] at hct;subst hin;subst hx1;clear htf hend hN
   go_wp2_with fail
   refine ((uh hct) _).mono ?_
   rintro e w3 ⟨rfl,b3⟩;have hs3:=hs2.below b3;clear d0 d1;have d0:=hs3.c0;have d1:=hs3.c1;have e1:puB (-1)=false:=by decide
   have e2:nsB (-1)=false:=by decide
   have e3:mem.digB (-1)=false:=by decide
   rw[e1]
   go_wp2_with fail
   refine (zpY (-1) _).mono ?_
   rintro e w4 ⟨rfl,rfl⟩;rw[e2]
   go_wp2_with fail
   refine (zhI (-1) _).mono ?_
   rintro e w4 ⟨rfl,rfl⟩;rw[e3]
   go_wp2_with fail
   refine ((uh htq) _ hs3.bel).mono ?_
   rintro e w4 ⟨rfl,b4⟩;have hs4:=hs3.below b4
   go_wp2_with fail
   refine (zbS _ _).mono ?_
   rintro e w5 ⟨rfl,rfl⟩
   go_wp2_with fail
   go_ret3
   exact⟨(uh HF) _ _ _ (uh hN2),hs4.bel⟩
 ·have hlt:i<n:=by omega
  have ene:((i:Int) == (n:Int))=false:=by simp;omega
  have hN1:=Hi (show N=(if x=46 then (if cAt l (i+1)=46∧cAt l (i+2)=46 then (2,i+3,E0) else (1,i,E0))
   else if puB x then (2,i+1,E0)
   else if nsB x then (3,nam l (i+1),E0)
   else if x=45∨mem.digB x then ((num l i).1,(num l i).2,E0)
   else if tq l i=true then blc sv.bS l i
   else if x=34 then qtd l i
   else (1,i,E0)) from by rw[uh hN,if_neg (fun e=>hin (by rw[e.1,uh hl]))])
  have hnm:=Hi (fun W (hb:Below w.heap.size w W)=>zpT a n c cl l (i+1) W (h.below hb) hn (by omega))
  have hnu:=Hi (fun W (hb:Below w.heap.size w W)=>zpZ a n c cl l i W (h.below hb) hn hi)
  clear hN hend hin
  by_cases h46:x=46
  ·subst h46
   have hN2:=Hi (show N=(if cAt l (i+1)=46∧cAt l (i+2)=46 then (2,i+3,E0) else (1,i,E0)) from uh hN1)
   clear hN1
   go_wp2_with fail
   rw[show ((i:Int)+1)=((i+1:Nat):Int) by omega]
   refine ((uh hA) _ hs2.bel (i+1)).mono ?_
   rintro e w3 ⟨rfl,b3⟩;have hs3:=hs2.below b3;clear d0 d1;have d0:=hs3.c0;have d1:=hs3.c1;obtain⟨y,hy⟩:∃ y,y=cAt l (i+1):=⟨_,rfl⟩;rw[← hy] at hN2 ⊢;clear hy
   by_cases hy46:y=46
   ·subst hy46
    go_wp2_with fail
    rw[show ((i:Int)+2)=((i+2:Nat):Int) by omega]
    refine ((uh hA) _ hs3.bel (i+2)).mono ?_
    rintro e w4 ⟨rfl,b4⟩;have hs4:=hs3.below b4;obtain⟨z,hz⟩:∃ z,z=cAt l (i+2):=⟨_,rfl⟩;rw[← hz] at hN2 ⊢;clear hz
    by_cases hz46:z=46
    ·subst hz46
     have hN3:=Hi (show N=(2,i+3,E0) from by rw[uh hN2];simp)
     go_wp2_with fail
     go_ret3
     exact⟨(by have:=(uh HF) _ _ _ (uh hN3);rw[← this];go_num),hs4.bel⟩
    ·have e46:(z != 46)=true:=by simpa using hz46
     have hN3:=Hi (show N=(1,i,E0) from by rw[uh hN2,if_neg (fun e=>hz46 e.2)])
     clear hz46
     go_wp2_with fail
     refine (zbS i _).mono ?_
     rintro e w5 ⟨rfl,rfl⟩
     go_wp2_with fail
     go_ret3
     exact⟨(uh HF) _ _ _ (uh hN3),hs4.bel⟩
   ·have e46:(y != 46)=true:=by simpa using hy46
    have hN3:=Hi (show N=(1,i,E0) from by rw[uh hN2,if_neg (fun e=>hy46 e.1)])
    clear hy46
    go_wp2_with fail
    refine (zbS i _).mono ?_
    rintro e w5 ⟨rfl,rfl⟩
    go_wp2_with fail
    go_ret3
    exact⟨(uh HF) _ _ _ (uh hN3),hs3.bel⟩
  ·have e46:(x == 46)=false:=by simpa using h46
   have hN2:=Hi (show N=(if puB x then (2,i+1,E0)
    else if nsB x then (3,nam l (i+1),E0)
    else if x=45∨mem.digB x then ((num l i).1,(num l i).2,E0)
    else if tq l i=true then blc sv.bS l i
    else if x=34 then qtd l i
    else (1,i,E0)) from by rw[uh hN1,if_neg h46])
   clear hN1 h46
   go_wp2_with fail
   refine ((uh hct) _).mono ?_
   rintro e w3 ⟨rfl,b3⟩;have hs3:=hs2.below b3;clear d0 d1;have d0:=hs3.c0;have d1:=hs3.c1
   cases hpu:puB x
   ·go_wp2_with fail
    refine (zpY x _).mono ?_
    rintro e w4 ⟨rfl,rfl⟩
    cases hns:nsB x
    ·by_cases h45:x=45
     ·subst h45
      have hN3:=Hi (show N=((num l i).1,(num l i).2,E0) from by rw[uh hN2];simp[hpu,hns])
      clear hN2
      go_wp2_with fail
      refine ((uh hnu) _ hs3.bel).mono ?_
      rintro e w4 ⟨rfl,b4⟩;have hs4:=hs3.below b4
      go_wp2_with fail
      go_ret3
      exact⟨(uh HF) _ _ _ (uh hN3),hs4.bel⟩
     ·have e45:(x == 45)=false:=by simpa using h45
      have H45:=Hi h45;clear h45
      go_wp2_with fail
      refine (zhI x _).mono ?_
      rintro e w4 ⟨rfl,rfl⟩
      cases hdg:mem.digB x
      ·have hN3:=Hi (show N=(if tq l i=true then blc sv.bS l i else if x=34 then qtd l i else (1,i,E0)) from by rw[uh hN2];simp[hpu,hns,hdg,uh H45])
       clear hN2
       cases htv:tq l i with
       | true =>
        have hN4:=Hi (show N=blc sv.bS l i from by rw[uh hN3,if_pos htv])
        have hbc2:=Hi (fun W hb=>(uh hbc) W hb htv)
        rw[htv] at htq;clear hN3 htv hbc
        go_wp2_with fail
        refine ((uh htq) _ hs3.bel).mono ?_
        rintro e w4 ⟨rfl,b4⟩;have hs4:=hs3.below b4;clear d0 d1;have d0:=hs4.c0;have d1:=hs4.c1
        go_wp2_with fail
        refine ((uh hbc2) _ hs4.bel).mono ?_
        rintro e w5 ⟨rfl,b5⟩;have hs5:=hs4.below b5
        go_wp2_with fail
        go_ret3
        exact⟨(uh HF) _ _ _ (uh hN4),hs5.bel⟩
       | false =>
        rw[htv] at htq
        by_cases h34:x=34
        ·have hN4:=Hi (show N=qtd l i from by rw[uh hN3,htv,if_neg (by decide),if_pos h34])
         have hqt2:=Hi (fun W hb=>(uh hqt) W hb hlt)
         subst h34;clear hN3 htv hbc hqt
         go_wp2_with fail
         refine ((uh htq) _ hs3.bel).mono ?_
         rintro e w4 ⟨rfl,b4⟩;have hs4:=hs3.below b4;clear d0 d1;have d0:=hs4.c0;have d1:=hs4.c1
         go_wp2_with fail
         refine ((uh hqt2) _ hs4.bel).mono ?_
         rintro e w5 ⟨rfl,b5⟩;have hs5:=hs4.below b5
         go_wp2_with fail
         go_ret3
         exact⟨(uh HF) _ _ _ (uh hN4),hs5.bel⟩
        ·have e34:(x == 34)=false:=by simpa using h34
         have hN4:=Hi (show N=(1,i,E0) from by rw[uh hN3,htv,if_neg (by decide),if_neg h34])
         clear hN3 htv hbc hqt h34
         go_wp2_with fail
         refine ((uh htq) _ hs3.bel).mono ?_
         rintro e w4 ⟨rfl,b4⟩;have hs4:=hs3.below b4
         go_wp2_with fail
         refine (zbS i _).mono ?_
         rintro e w5 ⟨rfl,rfl⟩
         go_wp2_with fail
         go_ret3
         exact⟨(uh HF) _ _ _ (uh hN4),hs4.bel⟩
      ·have hN3:=Hi (show N=((num l i).1,(num l i).2,E0) from by rw[uh hN2];simp[hpu,hns,hdg])
       clear hN2
       go_wp2_with fail
       refine ((uh hnu) _ hs3.bel).mono ?_
       rintro e w4 ⟨rfl,b4⟩;have hs4:=hs3.below b4
       go_wp2_with fail
       go_ret3
       exact⟨(uh HF) _ _ _ (uh hN3),hs4.bel⟩
    ·have hN3:=Hi (show N=(3,nam l (i+1),E0) from by rw[uh hN2];simp[hpu,hns])
     clear hN2
     go_wp2_with fail
     refine ((uh hnm) _ hs3.bel).mono ?_
     rintro e w4 ⟨rfl,b4⟩;have hs4:=hs3.below b4
     go_wp2_with fail
     go_ret3
     exact⟨(uh HF) _ _ _ (uh hN3),hs4.bel⟩
   ·have hN3:=Hi (show N=(2,i+1,E0) from by rw[uh hN2];simp[hpu])
    clear hN2
    go_wp2_with fail
    go_ret3
    exact⟨(by have:=(uh HF) _ _ _ (uh hN3);rw[← this];go_num),hs3.bel⟩
open cu (Tk)
open dt (zab zae zan)
theorem zeh (l:List Int):∀ (k j i:Nat),endB l k j=some i→j≤i∧tq l i=true
 | 0,j,i,h=>by cases h
 | k+1,j,i,h=>by
  unfold endB at h
  split at h
  ·rename_i ht
   simp at h;subst h;exact⟨lr _,ht⟩
  ·split at h
   ·have:=zeh l k _ _ h
    exact⟨by omega,this.2⟩
   ·split at h
    ·cases h
    ·have:=zeh l k _ _ h
     exact⟨by omega,this.2⟩
theorem zej (l:List Int):∀ (k j i:Nat),endQ l k j=some i→j≤i∧cAt l i=34
 | 0,j,i,h=>by cases h
 | k+1,j,i,h=>by
  unfold endQ at h
  split at h
  ·rename_i ht
   simp at h;subst h;exact⟨lr _,ht⟩
  ·split at h
   ·split at h
    ·cases h
    ·have:=zej l k _ _ h
     exact⟨by omega,this.2⟩
   ·split at h
    ·cases h
    ·have:=zej l k _ _ h
     exact⟨by omega,this.2⟩
theorem zmg (bS:List Int→ByteArray) (l:List Int) (i:Nat) (hi:i≤l.length):i≤(blc bS l i).2.1∧(blc bS l i).2.1≤l.length∧((blc bS l i).1=1∨i<(blc bS l i).2.1)∧(blc bS l i).1 ≠ 0:=by
 unfold blc
 cases e:endB l (l.length+2) (i+3) with
 | none=>exact⟨lr _,hi,.inl rfl,by simp[blcR]⟩
 | some j =>
  have h1:=zeh l _ _ _ e;have h2:=zgQ l j h1.2;simp only[blcR];exact⟨by omega,by omega,.inr (by omega),by decide⟩
theorem zm3 (l:List Int) (i:Nat) (hi:i≤l.length):i≤(qtd l i).2.1∧(qtd l i).2.1≤l.length∧((qtd l i).1=1∨i<(qtd l i).2.1)∧(qtd l i).1 ≠ 0:=by
 unfold qtd
 cases e:endQ l (l.length+2) (i+1) with
 | none=>exact⟨lr _,hi,.inl rfl,by simp[qtdR]⟩
 | some j =>
  have h1:=zej l _ _ _ e;have h2:=zjj l j h1.2;simp only[qtdR]
  cases quo (insZ l (i+1) j) with
  | none=>exact⟨lr _,hi,.inl rfl,by simp⟩
  | some r=>exact⟨by simp only;omega,by simp only;omega,.inr (by simp only;omega),by simp⟩
theorem zih (l:List Int) (cl:Bool) (i:Nat) (hi:i≤l.length):i≤(rdG l cl i).2.1∧(rdG l cl i).2.1≤l.length∧((rdG l cl i).1=0∨(rdG l cl i).1=1∨i<(rdG l cl i).2.1):=by
 unfold rdG
 split
 ·exact⟨lr _,hi,.inl rfl⟩
 ·split
  ·split
   ·rename_i h
    have:=zc2 h.2 (by decide)
    exact⟨by simp only;omega,by simp only;omega,.inr (.inr (by simp only;omega))⟩
   ·exact⟨lr _,hi,.inr (.inl rfl)⟩
  ·split
   ·rename_i h
    have hlt:i<l.length:=by
     rcases Nat.lt_or_ge i l.length with h1 | h1
     ·exact h1
     ·rw[zaW h1] at h;exact absurd h (by decide)
    exact⟨by simp only;omega,by simp only;omega,.inr (.inr (by simp only;omega))⟩
   ·split
    ·rename_i h
     have hlt:i<l.length:=by
      rcases Nat.lt_or_ge i l.length with h1 | h1
      ·exact h1
      ·rw[zaW h1] at h;exact absurd h (by decide)
     have:=zh4 l (i+1);exact⟨by simp only;omega,by simp only;omega,.inr (.inr (by simp only;omega))⟩
    ·split
     ·have:=zmQ l i hi
      exact⟨this.1,this.2.1,by rcases this.2.2.1 with h | h;exact .inr (.inl h);exact .inr (.inr h)⟩
     ·split
      ·have:=zmg sv.bS l i hi
       exact⟨this.1,this.2.1,by rcases this.2.2.1 with h | h;exact .inr (.inl h);exact .inr (.inr h)⟩
      ·split
       ·have:=zm3 l i hi
        exact⟨this.1,this.2.1,by rcases this.2.2.1 with h | h;exact .inr (.inl h);exact .inr (.inr h)⟩
       ·exact⟨lr _,hi,.inr (.inl rfl)⟩
def tkG (l:List Int) (cl:Bool) (i:Nat):Tk:=
 ⟨(rdG l cl (ign l false i)).1,(mem.posT l (ign l false i)).1,(mem.posT l (ign l false i)).2,ign l false i,(rdG l cl (ign l false i)).2.1,mem.encS ((l.take (rdG l cl (ign l false i)).2.1).drop (ign l false i)),(rdG l cl (ign l false i)).2.2⟩
set_option maxHeartbeats 2000000 in
theorem zlM (a:Option Addr) (n c:Nat) (cl:Bool) (l:List Int) (i:Nat) (w:World) (h:Row .i32 w a n c l) (hn:n≤1099511627776) (hi:i≤n) (hp:∀ x ∈ l,mem.scP x) (ha:a=none∨∃ b off,a=some ⟨b,off,none⟩) :
  Calls Tryz.prog 25 #[src a n c cl,.int .i64 (i:Int)] w fun e w'=>e = .returned (.agg #[.int .i64 (tkG l cl i).k,.int .i64 0,.int .i64 0,.int .i64 (tkG l cl i).fr,.int .i64 (tkG l cl i).to,.string (tkG l cl i).tx,.string (tkG l cl i).va])∧Below w.heap.size w w':=by
 have hl:=Hi h.len;have hsb:=Hi (Sb.new w a n c cl);have h1:=Hi (fun W (hb:Below w.heap.size w W)=>zpD a n c cl l i W (h.below hb) hn hi)
 have g1:=(zek l false i).2 (by rw[h.len];exact hi)
 rw[h.len] at g1;have h2:=Hi (fun W (hb:Below w.heap.size w W)=>zqb a n c cl l (ign l false i) W (h.below hb) hn g1 hp)
 have g2:=zih l cl (ign l false i) (by rw[h.len];exact g1)
 rw[h.len] at g2;obtain⟨F,hF⟩:∃ F,F=ign l false i:=⟨_,rfl⟩;unfold tkG;rw[← hF] at h1 h2 g1 g2 ⊢;obtain⟨T,hT⟩:∃ T,T=(rdG l cl F).2.1:=⟨_,rfl⟩;obtain⟨K,hK⟩:∃ K,K=(rdG l cl F).1:=⟨_,rfl⟩;obtain⟨V,hV⟩:∃ V,V=(rdG l cl F).2.2:=⟨_,rfl⟩;rw[← hT,← hK,← hV] at h2 ⊢;rw[← hT,← hK] at g2;clear hT hK hF hV;have g3:=g2.1;have g4:=g2.2.1;clear g2;unfold src
 go_enter Tryz.func25,Tryz.ntmps25
 go_wp2_with fail
 obtain⟨w1,hw1⟩:∃ w1,w1=(w.alloc (.cells #[.slice a n c,.bool cl] 82)).alloc (.cells #[Value.int IntKind.i64 0,Value.int IntKind.i64 0,Value.int IntKind.i64 0,Value.int IntKind.i64 0,Value.int IntKind.i64 0,Value.string { data:=#[] },Value.string { data:=#[] }] 41):=⟨_,rfl⟩;have hs1:Sb w w1 a n c cl:=by rw[hw1];exact (uh hsb).below (ba)
 have hth:Hid (w1.heap[w.heap.size+1]? = some (.cells #[Value.int IntKind.i64 0,Value.int IntKind.i64 0,Value.int IntKind.i64 0,Value.int IntKind.i64 0,Value.int IntKind.i64 0,Value.string { data:=#[] },Value.string { data:=#[] }] 41 (0,0))):=Hi (by
  rw[hw1];have:=heap_alloc_new (w.alloc (.cells #[.slice a n c,.bool cl] 82)) (.cells #[Value.int IntKind.i64 0,Value.int IntKind.i64 0,Value.int IntKind.i64 0,Value.int IntKind.i64 0,Value.int IntKind.i64 0,Value.string { data:=#[] },Value.string { data:=#[] }] 41)
  simpa using this)
 have hz1:w.heap.size+1<w1.heap.size:=by rw[hw1];simp
 rw[← hw1];clear hw1 hsb;refine ((uh h1) w1 hs1.bel).mono ?_
 rintro e w2 ⟨rfl,b2⟩;have hs2:=hs1.below b2;have d0:=hs2.c0;have d1:=hs2.c1
 go_wp2_with fail
 refine ((uh h2) w2 hs2.bel).mono ?_
 rintro e w3 ⟨rfl,b3⟩;have hs3:=hs2.below b3;have b13:=b2.trans (b3.mono b2.size);clear d0 d1 h1 h2;have d0:=hs3.c0;have d1:=hs3.c1
 rcases ha with rfl | ⟨b,off,rfl⟩
 ·have hc0:=h.nil rfl
  subst hc0;have hn0:n=0:=by have:=h.le;omega
  subst hn0;obtain rfl:F=0:=by omega
  obtain rfl:T=0:=by omega
  have hl0:l=[]:=List.eq_nil_of_length_eq_zero (uh hl);subst hl0
  go_wp2_with fail
  refine (mem.zbV none 0 0 [] w3 ⟨rfl,lr _,fun _=>rfl,.inl rfl⟩ (by omega)).mono ?_
  rintro e w4 ⟨rfl,b4⟩;have b14:=b13.trans (b4.mono b13.size);have hbx:=(b14.block (w.heap.size+1) hz1).trans (uh hth);have hbel:=hs1.bel.trans (b14.mono (Nat.le_trans (Nat.le_add_right _ 1) (Nat.le_of_lt hz1)));have hthr:w4.there (w.heap.size+1) 0 7:=zab hbx (by decide)
  have HB:=Hi hbel;clear b13 b14 b4 d0 d1 hbx hbel;obtain⟨S,hS⟩:∃ S,S=mem.encS ([]):=⟨_,rfl⟩;rw[← hS];have HS:=Hi hS;clear hS
  go_wp2_with (first
   | refine wpList_store_mid (by rfl) 41 _ _ (by rfl) (w.heap.size+1) 0 #[.int .i64 K,.int .i64 0,.int .i64 0,.int .i64 (0),.int .i64 (0),.string S,.string V] (by rfl) (by rfl) hthr infoTk (zae (cs:=[.int .i64 K,.int .i64 0,.int .i64 0,.int .i64 (0),.int .i64 (0),.string S,.string V]) (by rfl)) ?_)
  refine bodyPost_ret (rgn.zao rfl _ _ (w.heap.size+1) 0 [.int .i64 K,.int .i64 0,.int .i64 0,.int .i64 (0),.int .i64 (0),.string S,.string V] _ rfl (World.rangeAt_setCells_same _ _ _ _ hthr) Tryz.underlying41 rfl infoTk) rfl ?_
  exact⟨by first | rfl | (rw[uh HS];simp) | (simp[uh HS]),zan _ _ _ _ (uh HB) (Nat.le_add_right _ 1)⟩
 ·have hle:=h.le
  have k1:(F:Int)≤(T:Int):=by omega
  have k2:(T:Int)≤(c:Int):=by omega
  have hrow:=zlW (h.below hs3.bel) g3 g4
  by_cases hFc:F=c
  ·subst hFc
   have hrow2:Row .i32 w3 (some ⟨b,off,none⟩) (T - F) 0 ((l.take T).drop F):=⟨hrow.len,by omega,(fun e=>by cases e),.inl (by omega)⟩
   go_wp2_with fail
   refine (mem.zbV (some ⟨b,off,none⟩) (T - F) 0 ((l.take T).drop F) w3 hrow2 (by omega)).mono ?_
   rintro e w4 ⟨rfl,b4⟩;have b14:=b13.trans (b4.mono b13.size);have hbx:=(b14.block (w.heap.size+1) hz1).trans (uh hth);have hbel:=hs1.bel.trans (b14.mono (Nat.le_trans (Nat.le_add_right _ 1) (Nat.le_of_lt hz1)));have hthr:w4.there (w.heap.size+1) 0 7:=zab hbx (by decide)
   have HB:=Hi hbel;clear b13 b14 b4 d0 d1 hbx hbel;obtain⟨S,hS⟩:∃ S,S=mem.encS (((l.take T).drop F)):=⟨_,rfl⟩;rw[← hS];have HS:=Hi hS;clear hS
   go_wp2_with (first
    | refine wpList_store_mid (by rfl) 41 _ _ (by rfl) (w.heap.size+1) 0 #[.int .i64 K,.int .i64 0,.int .i64 0,.int .i64 (F:Int),.int .i64 (T:Int),.string S,.string V] (by rfl) (by rfl) hthr infoTk (zae (cs:=[.int .i64 K,.int .i64 0,.int .i64 0,.int .i64 (F:Int),.int .i64 (T:Int),.string S,.string V]) (by rfl)) ?_)
   refine bodyPost_ret (rgn.zao rfl _ _ (w.heap.size+1) 0 [.int .i64 K,.int .i64 0,.int .i64 0,.int .i64 (F:Int),.int .i64 (T:Int),.string S,.string V] _ rfl (World.rangeAt_setCells_same _ _ _ _ hthr) Tryz.underlying41 rfl infoTk) rfl ?_
   exact⟨by first | rfl | (rw[uh HS];simp) | (simp[uh HS]),zan _ _ _ _ (uh HB) (Nat.le_add_right _ 1)⟩
  ·have hFc2:¬ (F:Int)=(c:Int):=by omega
   go_wp2_with fail
   refine (mem.zbV (some ⟨b,off+F,none⟩) (T - F) (c - F) ((l.take T).drop F) w3 hrow (by omega)).mono ?_
   rintro e w4 ⟨rfl,b4⟩;have b14:=b13.trans (b4.mono b13.size);have hbx:=(b14.block (w.heap.size+1) hz1).trans (uh hth);have hbel:=hs1.bel.trans (b14.mono (Nat.le_trans (Nat.le_add_right _ 1) (Nat.le_of_lt hz1)));have hthr:w4.there (w.heap.size+1) 0 7:=zab hbx (by decide)
   have HB:=Hi hbel;clear b13 b14 b4 d0 d1 hbx hbel;obtain⟨S,hS⟩:∃ S,S=mem.encS (((l.take T).drop F)):=⟨_,rfl⟩;rw[← hS];have HS:=Hi hS;clear hS
   go_wp2_with (first
    | refine wpList_store_mid (by rfl) 41 _ _ (by rfl) (w.heap.size+1) 0 #[.int .i64 K,.int .i64 0,.int .i64 0,.int .i64 (F:Int),.int .i64 (T:Int),.string S,.string V] (by rfl) (by rfl) hthr infoTk (zae (cs:=[.int .i64 K,.int .i64 0,.int .i64 0,.int .i64 (F:Int),.int .i64 (T:Int),.string S,.string V]) (by rfl)) ?_)
   refine bodyPost_ret (rgn.zao rfl _ _ (w.heap.size+1) 0 [.int .i64 K,.int .i64 0,.int .i64 0,.int .i64 (F:Int),.int .i64 (T:Int),.string S,.string V] _ rfl (World.rangeAt_setCells_same _ _ _ _ hthr) Tryz.underlying41 rfl infoTk) rfl ?_
   exact⟨by first | rfl | (rw[uh HS];simp) | (simp[uh HS]),zan _ _ _ _ (uh HB) (Nat.le_add_right _ 1)⟩
def tksGF (l:List Int) (cl:Bool):Nat→Nat→List Tk
 | 0,i=>[]
 | f+1,i=>if (tkG l cl i).k=0∨(tkG l cl i).k=1 then [tkG l cl i] else tkG l cl i :: tksGF l cl f (tkG l cl i).to
theorem zdN (l:List Int) (cl:Bool) (i:Nat) (hi:i≤l.length):(tkG l cl i).fr≤l.length∧(tkG l cl i).to≤l.length∧((tkG l cl i).k=0∨(tkG l cl i).k=1∨i<(tkG l cl i).to):=by
 have h1:=zek l false i;have h2:=zih l cl (ign l false i) (h1.2 hi);refine⟨h1.2 hi,h2.2.1,?_⟩
 rcases h2.2.2 with h | h | h
 ·exact .inl h
 ·exact .inr (.inl h)
 ·exact .inr (.inr (Nat.lt_of_le_of_lt h1.1 h))
theorem zdE (l:List Int) (cl:Bool):∀ (f g i:Nat),l.length<f+i→l.length<g+i→i≤l.length→tksGF l cl f i=tksGF l cl g i
 | 0,g,i,hf,_,hi=>by omega
 | f+1,0,i,_,hg,hi=>by omega
 | f+1,g+1,i,hf,hg,hi=>by
  simp only[tksGF]
  split
  ·rfl
  ·rename_i h
   have h2:=zdN l cl i hi
   have h3:i<(tkG l cl i).to:=by
    rcases h2.2.2 with e | e | e
    ·exact absurd (.inl e) h
    ·exact absurd (.inr e) h
    ·exact e
   rw[zdE l cl f g (tkG l cl i).to (by omega) (by omega) h2.2.1]
def tksG (l:List Int) (cl:Bool) (i:Nat):List Tk:=tksGF l cl (l.length+1) i
theorem zbM {l:List Int} {cl:Bool} {i:Nat} (h:(tkG l cl i).k=0∨(tkG l cl i).k=1):tksG l cl i=[tkG l cl i]:=by
 unfold tksG;rw[tksGF,if_pos h]
theorem zch {l:List Int} {cl:Bool} {i:Nat} (hi:i≤l.length) (h:¬ ((tkG l cl i).k=0∨(tkG l cl i).k=1)):tksG l cl i=tkG l cl i :: tksG l cl (tkG l cl i).to:=by
 have h2:=zdN l cl i hi
 have h3:i<(tkG l cl i).to:=by
  rcases h2.2.2 with e | e | e
  ·exact absurd (.inl e) h
  ·exact absurd (.inr e) h
  ·exact e
 unfold tksG;rw[show tksGF l cl (l.length+1) i=tkG l cl i :: tksGF l cl l.length (tkG l cl i).to from by rw[tksGF,if_neg h]]
 rw[zdE l cl l.length (l.length+1) (tkG l cl i).to (by omega) (by omega) h2.2.1]
theorem zeJ {n:Nat} {l:List Int} {cl:Bool} {k:Nat} {t:Tk} {pre:List Tk} {w w6 w7:World} {B:Nat} {sl:Value} (hn:n≤1099511627776) (hend:t.k=0∨t.k=1) (hpre:pre ++ tksG l cl k=tksG l cl 0) (ht:t=tkG l cl k)
  (hr:w7.ownsRow B 41 7 sl (pre.length+1) (pre.flatMap Tk.cells ++ [.int .i64 t.k,.int .i64 t.ln,.int .i64 t.co,.int .i64 t.fr,.int .i64 t.to,.string t.tx,.string t.va])) (hb:Below w.heap.size w w6) (hb7:Below B w6 w7) (hB:w.heap.size≤B) :
  ∃ p cap,Ending.returned sl = .returned (.slice (some ⟨p,0,none⟩) (tksG l cl 0).length cap)∧w.heap.size≤p∧p<w7.heap.size∧(∀ i t,(tksG l cl 0)[i]? = some t→dt.RowAt w7 p (i * 7) t.cells)∧Below w.heap.size w w7:=by
 subst ht;have htk:tksG l cl 0=pre ++ [tkG l cl k]:=by rw[← hpre,zbM hend]
 have hcs:pre.flatMap Tk.cells ++ [.int .i64 (tkG l cl k).k,.int .i64 (tkG l cl k).ln,.int .i64 (tkG l cl k).co,.int .i64 (tkG l cl k).fr,.int .i64 (tkG l cl k).to,.string (tkG l cl k).tx,.string (tkG l cl k).va]=(tksG l cl 0).flatMap Tk.cells:=by
  rw[htk,List.flatMap_append];simp[Tk.cells]
 have hlen:pre.length+1=(tksG l cl 0).length:=by rw[htk];simp
 rw[hcs,hlen] at hr;have hr2:=hr;have hlt:=hr.lt;obtain⟨h1,h2⟩:=hr
 rcases h2 with ⟨_,h3⟩ | ⟨g,cap,cur,rfl,hg,hh,hnc,r⟩
 ·omega
 ·refine⟨g,cap,rfl,Nat.le_trans hB hg,(hlt g rfl).2,fun i t ht j u hu=>?_,hb.trans (hb7.mono hB)⟩
  have hi:i<(tksG l cl 0).length:=(List.getElem?_eq_some_iff.1 ht).1
  have hj:j<7:=(List.getElem?_eq_some_iff.1 hu).1
  rw[World.ownsRow.cellAt hr2 (i * 7+j) (by omega)]
  rw[flat7 _ i j t ht hj];exact hu
def chs (z:List Int):List Int:=(mem.decZ z).1
def cln (z:List Int):Bool:=decide ((mem.decZ z).2=z.length)
def toks (z:List Int):List Tk:=tksG (chs z) (cln z) 0
theorem zpc {z:List Int} (hz:mem.Byt z):∀ x ∈ chs z,mem.scP x:=fun x hx=>(mem.zdB x).1 (List.all_eq_true.1 (mem.zbT _ z hz).2.2.1 x hx)
set_option maxHeartbeats 4000000 in
theorem zi6 (a:Option Addr) (n0 c:Nat) (z:List Int) (w:World) (h:Row .u8 w a n0 c z) (hn0:n0≤1099511627776) (hz:mem.Byt z) :
  Calls Tryz.prog 11 #[.slice a n0 c] w fun e w'=>∃ p cap,e = .returned (.slice (some ⟨p,0,none⟩) (toks z).length cap)∧w.heap.size≤p∧p<w'.heap.size∧(∀ i t,(toks z)[i]? = some t→dt.RowAt w' p (i * 7) t.cells)∧Below w.heap.size w w':=by
 have hD:=Hi (mem.zgd a n0 c z w h hz (by omega))
 have hn1:=Nat.le_trans (mem.zfn z hz) (mem.zfm z hz);have hp:=zpc hz;unfold toks;obtain⟨l,hl⟩:∃ l,l=chs z:=⟨_,rfl⟩;obtain⟨g0,hg0⟩:∃ g0:Nat,g0=(mem.decZ z).2:=⟨_,rfl⟩;have hcl:cln z=decide (g0=n0):=by unfold cln;rw[hg0,h.len]
 rw[hcl];rw[show (mem.decZ z).1=l from hl.symm,← hg0] at hD
 rw[← hl] at hp ⊢
 have hn:l.length≤1099511627776:=by
  rw[hl];unfold chs;rw[h.len] at hn1;omega
 clear hl hg0 hcl hn1;obtain⟨cl,hcl⟩:∃ cl,cl=decide (g0=n0):=⟨_,rfl⟩;rw[← hcl]
 have hce:((g0:Int) == (n0:Int))=cl:=by
  rw[hcl,Bool.eq_iff_iff,beq_iff_eq,decide_eq_true_iff];omega
 clear hcl;obtain⟨n,hne⟩:∃ n,n=l.length:=⟨_,rfl⟩;rw[← hne] at hD hn;have Hne:=Hi hne;clear hne
 go_enter Tryz.func11,Tryz.ntmps11
 go_wp2_with fail
 refine (uh hD).mono ?_
 rintro e w1 ⟨v,rfl,hown,b1⟩;obtain⟨a1,c1,rfl,hrow⟩:=mem.zcR hown
 have ha1:a1=none∨∃ b off,a1=some ⟨b,off,none⟩:=by
  rcases hown.2 with ⟨e,_⟩ | ⟨g,cap,cur,e,_⟩
  ·left;simp at e;exact e.1
  ·right;simp at e;exact⟨g,0,e.1⟩
 clear hD hown;have hsb:=Sb.new w1 a1 n c1 cl
 go_wp2_with fail
 obtain⟨w2,hw2⟩:∃ w2,w2=w1.alloc (.cells #[.slice a1 n c1,.bool cl] 82):=⟨_,rfl⟩;rw[← hw2] at hsb ⊢;clear hw2;refine (mem.ziX a1 n c1 l w2 (hrow.below hsb.bel) hn).mono ?_
 rintro e w3 ⟨rfl,hpl,b3⟩;have hs3:=hsb.below b3;obtain⟨pb,hpb⟩:∃ pb,pb=w2.heap.size+1:=⟨_,rfl⟩;rw[← hpb] at hpl ⊢;have hpc:=Hi (fun k hk=>World.ownsRow.cellAt hpl k hk)
 have hplt:=(hpl.lt pb rfl).2;clear hpl;have hplc:=Hi (fun f (hf:f<n+1)=>zkw l (n+1) f hf)
 go_wp2_with fail
 rw[← hpb];clear hpb
 go_loopg [7,8] (n+1) (fun g vs vi wr=>∃ (k:Nat) (pre:List Tk),k≤n∧n+1≤g+k∧vi = .int .i64 k∧Hid (pre ++ tksG l cl k=tksG l cl 0)∧Hid (wr.ownsRow w3.heap.size 41 7 vs pre.length (pre.flatMap Tk.cells))∧pre.length≤k∧Below w3.heap.size w3 wr)
 case atStart=>exact⟨0,[],Nat.zero_le _,by omega,rfl,Hi rfl,Hi (World.ownsRow_nil _ _ _ _),Nat.zero_le _,Below.refl _ _⟩
 case round =>
  obtain⟨k,pre,hk,hg,rfl,hpre,hown,hpk,hb⟩:=hrel;have hsr:=hs3.below hb;have d0:=hsr.c0;have d1:=hsr.c1
  go_wp2_with fail
  refine (zlM a1 n c1 cl l k wr (hrow.below hsr.bel) hn hk hp ha1).mono ?_
  rintro e w5 ⟨rfl,b5⟩;have htl:=zdN l cl k (by rw[hrow.len];exact hk)
  rw[hrow.len] at htl;obtain⟨hfr,hto,hprog⟩:=htl;have hln:=Hi (show (tkG l cl k).ln=(mem.posT l (tkG l cl k).fr).1∧(tkG l cl k).co=(mem.posT l (tkG l cl k).fr).2 from ⟨rfl,rfl⟩)
  obtain⟨t,ht⟩:∃ t,t=tkG l cl k:=⟨_,rfl⟩;rw[← ht] at hfr hto hprog hln ⊢;have Ht:=Hi ht;clear ht d0 d1;have b35:=hb.trans (b5.mono hb.size)
  have hcs:∀ o,(w5.alloc o).cell? ⟨pb,t.fr * 2,none⟩=some (.int .i64 t.ln)∧(w5.alloc o).cell? ⟨pb,t.fr * 2+1,none⟩=some (.int .i64 t.co):=fun o=>by
   have bA:Below w3.heap.size w3 (w5.alloc o):=b35.alloc b35.size o;have h1:=(uh hplc) t.fr (by omega)
   rw[bA.cell (p:=⟨pb,t.fr * 2,none⟩) hplt,bA.cell (p:=⟨pb,t.fr * 2+1,none⟩) hplt,(uh hpc) (t.fr * 2) (by omega),(uh hpc) (t.fr * 2+1) (by omega),(uh hln).1,(uh hln).2]
   exact h1
  have k0:=fun o=>(hcs o).1
  have k1:=fun o=>(hcs o).2
  clear hcs;obtain⟨it,zt,q1,q2,q3,q4,q5⟩:=infoTz;have HQ:=Hi (an q1 (an q2 (an q3 (an q4 q5))));clear q1 q2 q3 q4 q5;have hown6:=Hi (fun o=>World.ownsRow.alloc (mem.zay (uh hown) b5) o)
  have hbyt:=Hi (show (pre.length+1) * 72≤140737488355328∧pre.length+1≤maxLen from ⟨by omega,by unfold maxLen;omega⟩)
  have hsz6:=Hi (fun o=>show w3.heap.size≤(w5.alloc o).heap.size from by have:=b35.size;simp;omega)
  have hone:Hid (∀ u ∈ [Value.int .i64 t.k,.int .i64 t.ln,.int .i64 t.co,.int .i64 t.fr,.int .i64 t.to,.string t.tx,.string t.va],u.oneCell'=true):=Hi (by intro u hu;simp at hu;rcases hu with rfl | rfl | rfl | rfl | rfl | rfl | rfl <;> rfl)
  have HB:=Hi b35;have hne:=Hi (show u7.ownBlock ≠ some w5.heap.size from fun e=>by have:=((uh hown).lt _ e).2;have:=b5.size;omega)
  have Hpk:=Hi hpk;have Hk:=Hi hk;clear b35 hk hpk
  by_cases hk0:t.k=0
  ·have e0:(t.k == 0)=true:=by simpa using hk0
   have Hend:=Hi (show t.k=0∨t.k=1 from .inl hk0)
   clear hk0
   go_wp2_with (first
    | (at_builtin;refine dt.zaG (by rfl) _ _ (by rfl) Tryz.underlying33 (uh HQ).1 (uh HQ).2.1 (uh HQ).2.2.1 (uh HQ).2.2.2.1 (uh HQ).2.2.2.2 (by omega) w3.heap.size pre.length (pre.flatMap Tk.cells) _ (by rfl) ((uh hown6) _) [.int .i64 t.k,.int .i64 t.ln,.int .i64 t.co,.int .i64 t.fr,.int .i64 t.to,.string t.tx,.string t.va] (by rfl) (uh hone) (w5.heap.size+1) (by simp) (by rfl) (uh hbyt).1 (uh hbyt).2 ((uh hsz6) _) ?_;intro sl' w7 hr7 b7 hold7 hat7;have T7:=(hold7 w5.heap.size (by simp) (uh hne)).trans (heap_alloc_new _ _);have f0:w7.cell? ⟨w5.heap.size,0,none⟩=some (.int .i64 t.k):=(zG T7 0).trans rfl;have f4:w7.cell? ⟨w5.heap.size,4,none⟩=some (.int .i64 t.to):=(zG T7 4).trans rfl;clear T7;have R7:=Hi hr7;clear hr7;have B7:=Hi b7;clear b7 hold7 hat7))
   go_ret
   exact zeJ hn (uh Hend) (uh hpre) (uh Ht) (uh R7) (b1.trans ((hs3.bel.trans (((uh HB).alloc (uh HB).size _).mono (Nat.le_of_lt hs3.lt))).mono b1.size)) (uh B7) (Nat.le_trans b1.size (Nat.le_of_lt hs3.lt))
  by_cases hk1:t.k=1
  ·have e0:(t.k == 0)=false:=by simpa using hk0
   have e1:(t.k == 1)=true:=by simpa using hk1
   have Hend:=Hi (show t.k=0∨t.k=1 from .inr hk1)
   clear hk0 hk1
   go_wp2_with (first
    | (at_builtin;refine dt.zaG (by rfl) _ _ (by rfl) Tryz.underlying33 (uh HQ).1 (uh HQ).2.1 (uh HQ).2.2.1 (uh HQ).2.2.2.1 (uh HQ).2.2.2.2 (by omega) w3.heap.size pre.length (pre.flatMap Tk.cells) _ (by rfl) ((uh hown6) _) [.int .i64 t.k,.int .i64 t.ln,.int .i64 t.co,.int .i64 t.fr,.int .i64 t.to,.string t.tx,.string t.va] (by rfl) (uh hone) (w5.heap.size+1) (by simp) (by rfl) (uh hbyt).1 (uh hbyt).2 ((uh hsz6) _) ?_;intro sl' w7 hr7 b7 hold7 hat7;have T7:=(hold7 w5.heap.size (by simp) (uh hne)).trans (heap_alloc_new _ _);have f0:w7.cell? ⟨w5.heap.size,0,none⟩=some (.int .i64 t.k):=(zG T7 0).trans rfl;have f4:w7.cell? ⟨w5.heap.size,4,none⟩=some (.int .i64 t.to):=(zG T7 4).trans rfl;clear T7;have R7:=Hi hr7;clear hr7;have B7:=Hi b7;clear b7 hold7 hat7))
   go_ret
   exact zeJ hn (uh Hend) (uh hpre) (uh Ht) (uh R7) (b1.trans ((hs3.bel.trans (((uh HB).alloc (uh HB).size _).mono (Nat.le_of_lt hs3.lt))).mono b1.size)) (uh B7) (Nat.le_trans b1.size (Nat.le_of_lt hs3.lt))
  ·have e0:(t.k == 0)=false:=by simpa using hk0
   have e1:(t.k == 1)=false:=by simpa using hk1
   have Hend:=Hi (show ¬ (t.k=0∨t.k=1) from fun e=>by rcases e with e | e;exact hk0 e;exact hk1 e)
   have hto2:k<t.to:=by
    rcases hprog with e | e | e
    ·exact absurd e hk0
    ·exact absurd e hk1
    ·exact e
   clear hk0 hk1 hprog
   go_wp2_with (first
    | (at_builtin;refine dt.zaG (by rfl) _ _ (by rfl) Tryz.underlying33 (uh HQ).1 (uh HQ).2.1 (uh HQ).2.2.1 (uh HQ).2.2.2.1 (uh HQ).2.2.2.2 (by omega) w3.heap.size pre.length (pre.flatMap Tk.cells) _ (by rfl) ((uh hown6) _) [.int .i64 t.k,.int .i64 t.ln,.int .i64 t.co,.int .i64 t.fr,.int .i64 t.to,.string t.tx,.string t.va] (by rfl) (uh hone) (w5.heap.size+1) (by simp) (by rfl) (uh hbyt).1 (uh hbyt).2 ((uh hsz6) _) ?_;intro sl' w7 hr7 b7 hold7 hat7;have T7:=(hold7 w5.heap.size (by simp) (uh hne)).trans (heap_alloc_new _ _);have f0:w7.cell? ⟨w5.heap.size,0,none⟩=some (.int .i64 t.k):=(zG T7 0).trans rfl;have f4:w7.cell? ⟨w5.heap.size,4,none⟩=some (.int .i64 t.to):=(zG T7 4).trans rfl;clear T7;have R7:=Hi hr7;clear hr7;have B7:=Hi b7;clear b7 hold7 hat7))
   go_roundg (gk - 1)
   case rel =>
    refine⟨t.to,pre ++ [t],hto,by omega,rfl,Hi ?_,Hi ?_,?_,?_⟩
    ·have e:=zch (l:=l) (i:=k) (by rw[hrow.len];exact uh Hk) (by rw[← uh Ht];exact uh Hend)
     rw[← uh Ht] at e;rw[← uh hpre,e];simp
    ·have:=uh R7
     rw[List.flatMap_append,List.length_append]
     simpa[Tk.cells] using this
    ·have:=uh Hpk
     rw[List.length_append]
     show pre.length+1≤t.to
     omega
    ·exact ((uh HB).alloc (uh HB).size _).trans (uh B7)
   case measure=>omega
end Go.Proofs.YtifbkdicglcogaaGreat.lx
namespace Go.Proofs.YtifbkdicglcogaaGreat.cu
open Go.ChangeShapes Go.WideShapes Go.ChangeAt Go.RowKit
open ints (Hi uh)
open dt (Dt Kp RowAt)
open mem (Row)
def newG (z:List Int) (d:Int):Cu:=⟨lx.toks z,0,0,mostS d,0⟩
theorem zgN (l:List Int) (cl:Bool):∀ (f i:Nat),i≤l.length→l.length<f+i→∀ j t,(lx.tksGF l cl f i)[j]? = some t→t.k=0∨t.k=1∨j+1<(lx.tksGF l cl f i).length
 | 0,i,hi,hf,j,t,h=>by simp[lx.tksGF] at h
 | f+1,i,hi,hf,j,t,h=>by
  by_cases he:(lx.tkG l cl i).k=0∨(lx.tkG l cl i).k=1
  ·rw[lx.tksGF,if_pos he] at h
   cases j with
   | zero=>simp at h;subst h;rcases he with e | e;exact .inl e;exact .inr (.inl e)
   | succ j=>simp at h
  ·rw[lx.tksGF,if_neg he] at h ⊢
   have h2:=lx.zdN l cl i hi
   have h3:i<(lx.tkG l cl i).to:=by
    rcases h2.2.2 with e | e | e
    ·exact absurd (.inl e) he
    ·exact absurd (.inr e) he
    ·exact e
   cases j with
   | zero =>
    right;right
    cases f with
    | zero=>omega
    | succ f =>
     rw[lx.tksGF]
     split <;> simp
   | succ j =>
    have:=zgN l cl f (lx.tkG l cl i).to h2.2.1 (by omega) j t (by simpa using h)
    simpa using this
theorem zgL (l:List Int) (cl:Bool):∀ (f i:Nat),i≤l.length→(lx.tksGF l cl f i).length≤l.length+1 - i
 | 0,i,hi=>by simp[lx.tksGF]
 | f+1,i,hi=>by
  by_cases he:(lx.tkG l cl i).k=0∨(lx.tkG l cl i).k=1
  ·rw[lx.tksGF,if_pos he];simp;omega
  ·rw[lx.tksGF,if_neg he]
   have h2:=lx.zdN l cl i hi
   have h3:i<(lx.tkG l cl i).to:=by
    rcases h2.2.2 with e | e | e
    ·exact absurd (.inl e) he
    ·exact absurd (.inr e) he
    ·exact e
   have:=zgL l cl f (lx.tkG l cl i).to h2.2.1;simp;omega
theorem zlZ (l:List Int) (cl:Bool) (i:Nat):0<(lx.tksG l cl i).length:=by
 unfold lx.tksG;rw[lx.tksGF]
 split <;> simp
theorem zbJ (z:List Int) (d:Int):(newG z d).Ok:=
 ⟨zlZ _ _ 0,zgN (lx.chs z) (lx.cln z) ((lx.chs z).length+1) 0 (Nat.zero_le _) (by omega),Nat.zero_le _,by unfold newG mostS;simp only;omega⟩
theorem zir (z:List Int) (hz:mem.Byt z):(lx.toks z).length≤z.length+1:=by
 have h1:=zgL (lx.chs z) (lx.cln z) ((lx.chs z).length+1) 0 (Nat.zero_le _);have h2:=Nat.le_trans (mem.zfn z hz) (mem.zfm z hz)
 show (lx.tksGF (lx.chs z) (lx.cln z) ((lx.chs z).length+1) 0).length≤_
 have h3:(lx.chs z).length≤z.length:=h2;omega
theorem zn9 (a:Option Addr) (n c:Nat) (l:List Int) (d:Int) (w:World) (h:Row .u8 w a n c l) (hn:n≤1099511627776) (hz:mem.Byt l) (hd:(Lit.int .i64 d).wf=true) :
  Calls Tryz.prog 20 #[.slice a n c,.int .i64 d] w fun e w'=>∃ B p,e = .returned (ptr B)∧w.heap.size≤B∧w.heap.size≤p∧CurAt w' B p (newG l d)∧Below w.heap.size w w':=by
 have hT:=Hi (fun W (bb:Below w.heap.size w W)=>lx.zi6 a n c l W (h.below bb) hn hz)
 have hok:=Hi (zbJ l d);have hlen:=zir l hz;rw[h.len] at hlen
 go_enter Tryz.func20,Tryz.ntmps20
 go_wp2_with fail
 refine ((uh hT) w (Below.refl _ _)).mono ?_
 rintro e w1 ⟨p,cap,rfl,hp1,hp2,hrows,b1⟩;have HR:=Hi hrows;clear hT hrows
 go_wp2_with fail
 go_ret
 have hmo:(max 0 (min d 200))=((mostS d:Nat):Int):=by unfold mostS;omega
 rw[hmo];have bX:∀ o,Below w1.heap.size w1 (w1.alloc o):=fun o=>ba
 refine⟨w1.heap.size,p,rfl,b1.size,hp1,⟨uh hok,?_,cap,heap_alloc_new w1 _,by omega,?_,fun i t ht=>((uh HR) i t ht).below (bX _)⟩,b1.alloc b1.size _⟩
 ·show (lx.toks l).length≤_
  omega
 ·simp;omega
open dt (Dt Kp RowAt Ow Grow)
end Go.Proofs.YtifbkdicglcogaaGreat.cu
namespace Go.Proofs.YtifbkdicglcogaaGreat.lx
open mem (pfx digB digs digAt isAt bWhole bPart bPoint bMark pfxFirst pfxR posT enB prB)
open cu (Tk)
structure Loc (l l':List Int) (T:Nat):Prop where
 tk:l'.take T=l.take T
 le:T≤l.length
 nl:cAt l' T=10
section
variable {l l':List Int} {T:Nat} (H:Loc l l' T)
include H
theorem Loc.lt:T<l'.length:=zc2 H.nl (by decide)
theorem Loc.get {i:Nat} (hi:i<T):l'[i]? = l[i]? := by
 have h1:(l'.take T)[i]? = (l.take T)[i]? := by rw[H.tk]
 rwa [List.getElem?_take,List.getElem?_take,if_pos hi,if_pos hi] at h1
theorem Loc.getD {i:Nat} (hi:i<T):l'.getD i 0=l.getD i 0:=by
 rw[List.getD_eq_getElem?_getD,List.getD_eq_getElem?_getD,H.get hi]
theorem Loc.at_ {i:Nat} (hi:i<T):cAt l' i=cAt l i:=by
 have:=H.lt;have:=H.le;rw[zf9 (by omega),zf9 (by omega),H.getD hi]
theorem zel:∀ (n:Nat) (b:Bool) (i:Nat),T≤i+n→ign l b i<T→ign l' b i=ign l b i
 | 0,b,i,h,h2=>by have:=(zek l b i).1;omega
 | n+1,b,i,h,h2=>by
  have hi:i<T:=Nat.lt_of_le_of_lt (zek l b i).1 h2;have hc:=H.at_ hi
  cases b with
  | false =>
   rw[zgk l i] at h2 ⊢;rw[zgk l' i,hc]
   split
   ·rename_i h3;rw[if_pos h3] at h2;exact zel n false (i+1) (by omega) h2
   ·rename_i h3;rw[if_neg h3] at h2
    split
    ·rename_i h4;rw[if_pos h4] at h2;exact zel n true (i+1) (by omega) h2
    ·rfl
  | true =>
   rw[zgl l i] at h2 ⊢;rw[zgl l' i,hc]
   split
   ·rename_i h3;rw[if_pos h3] at h2;exact zel n false (i+1) (by omega) h2
   ·rename_i h3;rw[if_neg h3] at h2
    split
    ·rename_i h4;rw[if_pos h4] at h2;exact zel n true (i+1) (by omega) h2
    ·rfl
theorem zj9:∀ (n:Nat) (i:Nat),T+1≤i+n→nam l i≤T→nam l' i=nam l i
 | 0,i,h,h2=>by have:=(zh4 l i).1;omega
 | n+1,i,h,h2=>by
  have hi:i≤T:=Nat.le_trans (zh4 l i).1 h2
  by_cases e:i=T
  ·subst e
   have h3:nam l i=i:=Nat.le_antisymm h2 (zh4 l i).1;rw[h3,zgs l' i,H.nl];rfl
  ·have hc:=H.at_ (i:=i) (by omega)
   rw[zgs l i] at h2 ⊢;rw[zgs l' i,hc]
   split
   ·rename_i h3;rw[if_pos h3] at h2;exact zj9 n (i+1) (by omega) h2
   ·rfl
omit H in
theorem zdu (l:List Int) (p:Nat):digAt l p=digB (cAt l p):=by
 unfold digAt cAt
 by_cases h:p<l.length
 ·simp[h]
 ·simp[h,digB]
omit H in
theorem zbz (l:List Int) (p:Nat) (c:Int) (hc:c ≠ -1):isAt l p c=decide (cAt l p=c):=by
 unfold isAt cAt
 by_cases h:p<l.length
 ·simp[h,BEq.beq]
 ·simp[h];exact fun e=>hc e.symm
omit H in
theorem zg1 (l:List Int) (p:Nat):digs l p=if digAt l p then digs l (p+1) else p:=by
 cases h:digAt l p
 ·rw[mem.zbl h];rfl
 ·rw[mem.zbc h];rfl
theorem zdV:∀ (n:Nat) (i:Nat),T+1≤i+n→digs l i≤T→digs l' i=digs l i
 | 0,i,h,h2=>by have:=(mem.zbw l i).1;omega
 | n+1,i,h,h2=>by
  have hi:i≤T:=Nat.le_trans (mem.zbw l i).1 h2
  by_cases e:i=T
  ·subst e
   have h3:digs l i=i:=Nat.le_antisymm h2 (mem.zbw l i).1;rw[h3,zg1 l' i,zdu,H.nl];rfl
  ·have hc:=H.at_ (i:=i) (by omega)
   rw[zg1 l i] at h2 ⊢;rw[zg1 l' i,zdu,zdu,hc];rw[zdu] at h2
   split
   ·rename_i h3;rw[if_pos h3] at h2;exact zdV n (i+1) (by omega) h2
   ·rfl
theorem zlR {e:Nat} (he:(pfxR l e).1≤T) (h46:cAt l (pfxR l e).1 ≠ 46) (hnr:nrB (cAt l (pfxR l e).1)=false):pfxR l' e=pfxR l e:=by
 have hge:∀ g,g≤(bPart l g (bMark l g)).1:=fun g=>zcC l g _ (by unfold bMark;split;omega;split <;> omega)
 have hpp:e≤bPoint l e:=by unfold bPoint;split <;> omega
 have hb:=zcC l e (bPoint l e) hpp
 have hR:(bPart l e (bPoint l e)).1≤(pfxR l e).1:=by
  unfold pfxR
  split
  ·exact hge _
  ·exact lr _
 have heT:e≤T:=by omega
 have h46b:∀ p,isAt l p 46=decide (cAt l p=46):=fun p=>zbz l p 46 (by decide)
 have h46c:∀ p,isAt l' p 46=decide (cAt l' p=46):=fun p=>zbz l' p 46 (by decide)
 have hpt:bPoint l' e=bPoint l e:=by
  unfold bPoint;rw[h46b,h46c]
  by_cases h1:e<T
  ·rw[H.at_ h1]
  ·have h2:e=T:=by omega
   have h3:(pfxR l e).1=e:=by omega
   rw[h3] at h46;rw[h2,H.nl,← h2];simp[h46]
 have hfr:bPart l' e (bPoint l e)=bPart l e (bPoint l e)∧(bPart l e (bPoint l e)).1=(bPart l e (bPoint l e)).2:=by
  by_cases h1:bPoint l e=e
  ·unfold bPart
   rw[if_pos h1,if_pos h1];exact⟨rfl,rfl⟩
  ·by_cases h2:digs l (bPoint l e)=bPoint l e
   ·exfalso
    have h3:bPart l e (bPoint l e)=(e,digs l (bPoint l e)):=by unfold bPart;rw[if_neg h1,if_pos h2]
    have h4:pfxR l e=(e,digs l (bPoint l e)):=by
     unfold pfxR;rw[h3];simp only;rw[if_neg (by rw[h2];exact fun e'=>h1 e'.symm)]
    rw[h4] at h46
    apply h46
    unfold bPoint at h1
    cases h5:isAt l e 46
    ·rw[h5] at h1;exact absurd rfl h1
    ·rw[h46b] at h5;simpa using h5
   ·have h3:bPart l e (bPoint l e)=(digs l (bPoint l e),digs l (bPoint l e)):=by unfold bPart;rw[if_neg h1,if_neg h2]
    rw[h3] at hR;have h4:=zdV H (T+1) (bPoint l e) (by omega) (by simp only at hR;omega)
    refine⟨?_,by rw[h3]⟩
    rw[h3];unfold bPart;rw[if_neg h1,h4,if_neg h2]
 obtain⟨g,hg⟩:∃ g,g=(bPart l e (bPoint l e)).1:=⟨_,rfl⟩;have hRe:pfxR l e=bPart l g (bMark l g):=by unfold pfxR;rw[if_pos hfr.2,← hg]
 have hRe':pfxR l' e=bPart l' g (bMark l' g):=by unfold pfxR;rw[hpt,hfr.1,if_pos hfr.2,← hg]
 rw[← hg] at hR;have he1:∀ p,isAt l p 101=decide (cAt l p=101):=fun p=>zbz l p 101 (by decide)
 have he2:∀ p,isAt l p 69=decide (cAt l p=69):=fun p=>zbz l p 69 (by decide)
 have he1':∀ p,isAt l' p 101=decide (cAt l' p=101):=fun p=>zbz l' p 101 (by decide)
 have he2':∀ p,isAt l' p 69=decide (cAt l' p=69):=fun p=>zbz l' p 69 (by decide)
 rw[hRe',hRe]
 by_cases hm:isAt l g 101=false∧isAt l g 69=false
 ·have hm':isAt l' g 101=false∧isAt l' g 69=false:=by
   by_cases h1:g<T
   ·rw[he1',he2',H.at_ h1,← he1,← he2];exact hm
   ·have h2:g=T:=by omega
    rw[he1',he2',h2,H.nl]
    decide
  have e1:bMark l g=g:=by unfold bMark;rw[if_pos hm]
  have e2:bMark l' g=g:=by unfold bMark;rw[if_pos hm']
  rw[e1,e2];unfold bPart;rw[if_pos rfl,if_pos rfl]
 ·have hc:cAt l g=101∨cAt l g=69:=by
   rw[he1,he2] at hm;simp only[decide_eq_false_iff_not] at hm
   by_cases h:cAt l g=101
   ·exact .inl h
   ·exact .inr (Classical.not_not.1 (fun h'=>hm ⟨h,h'⟩))
  have hgn:nrB (cAt l g)=true:=by rcases hc with h | h <;> rw[h] <;> decide
  have hne:g ≠ (pfxR l e).1:=fun e'=>by rw[← e',hgn] at hnr;cases hnr
  have hgT:g<T:=by omega
  have hk:bMark l g=g+1∨bMark l g=g+2:=by unfold bMark;rw[if_neg hm];split;exact .inr rfl;exact .inl rfl
  have hkg:bMark l g ≠ g:=by omega
  by_cases hd:digs l (bMark l g)=bMark l g
  ·exfalso
   have:bPart l g (bMark l g)=(g,digs l (bMark l g)):=by unfold bPart;rw[if_neg hkg,if_pos hd]
   rw[hRe,this] at hne;exact hne rfl
  ·have h3:bPart l g (bMark l g)=(digs l (bMark l g),digs l (bMark l g)):=by unfold bPart;rw[if_neg hkg,if_neg hd]
   rw[hRe,h3] at he;simp only at he;have h5:=(mem.zbw l (bMark l g)).1;have hg1:g+1<T:=by omega
   have hs1:∀ c:Int,c ≠ -1→isAt l' (g+1) c=isAt l (g+1) c:=fun c hc=>by rw[zbz _ _ _ hc,zbz _ _ _ hc,H.at_ hg1]
   have hmk:bMark l' g=bMark l g:=by
    unfold bMark;rw[he1',he2',H.at_ hgT,← he1,← he2,hs1 43 (by decide),hs1 45 (by decide)]
   have h4:=zdV H (T+1) (bMark l g) (by omega) he
   rw[hmk,h3];unfold bPart;rw[if_neg hkg,h4,if_neg hd]
theorem zol {p:Nat} (hf:(pfx l p).2.2 ≠ 0) (ht:(pfx l p).1≤T) (h46:cAt l (pfx l p).1 ≠ 46) (hnr:nrB (cAt l (pfx l p).1)=false):pfx l' p=pfx l p:=by
 have hw:¬ bWhole l (pfxFirst l p)=pfxFirst l p:=fun e=>hf (by unfold pfx;rw[if_pos e])
 have hpx:pfx l p=((pfxR l (bWhole l (pfxFirst l p))).1,(pfxR l (bWhole l (pfxFirst l p))).2,if (pfxR l (bWhole l (pfxFirst l p))).1 > bWhole l (pfxFirst l p) then 2 else 1):=by unfold pfx;rw[if_neg hw]
 rw[hpx] at ht h46 hnr;simp only at ht h46 hnr;have hge:∀ g,g≤(bPart l g (bMark l g)).1:=fun g=>zcC l g _ (by unfold bMark;split;omega;split <;> omega)
 have hR:bWhole l (pfxFirst l p)≤(pfxR l (bWhole l (pfxFirst l p))).1:=by
  have hpp:∀ e,e≤bPoint l e:=fun e=>by unfold bPoint;split <;> omega
  have hb:=fun e=>zcC l e (bPoint l e) (hpp e)
  unfold pfxR
  split
  ·exact Nat.le_trans (hb _) (hge _)
  ·exact hb _
 have hwl:pfxFirst l p≤bWhole l (pfxFirst l p):=by
  unfold bWhole
  split
  ·omega
  ·exact (mem.zbw l _).1
 have hfp:p≤pfxFirst l p:=by unfold pfxFirst;split <;> omega
 have hpT:p<T:=by omega
 have hfT:pfxFirst l p<T:=by omega
 have hfi:pfxFirst l' p=pfxFirst l p:=by unfold pfxFirst;rw[zbz _ _ _ (by decide),zbz _ _ _ (by decide),H.at_ hpT]
 have hwe:bWhole l' (pfxFirst l p)=bWhole l (pfxFirst l p):=by
  unfold bWhole;rw[zbz _ _ _ (by decide),zbz _ _ _ (by decide),H.at_ hfT]
  split
  ·rfl
  ·rename_i h0
   refine zdV H (T+1) _ (by omega) ?_
   have:bWhole l (pfxFirst l p)=digs l (pfxFirst l p):=by unfold bWhole;rw[zbz _ _ _ (by decide),if_neg h0]
   omega
 have hre:=zlR H ht h46 hnr;rw[hpx];unfold pfx;rw[hfi,hwe,if_neg hw,hre]
theorem zoc {i:Nat} (hk:(num l i).1 ≠ 1) (ht:(num l i).2≤T):num l' i=num l i:=by
 have hc:¬ (cAt l (pfx l i).1=46∨nrB (cAt l (pfx l i).1)=true):=fun e=>hk (by unfold num;rw[if_pos e])
 have h46:cAt l (pfx l i).1 ≠ 46:=fun e=>hc (.inl e)
 have hnr:nrB (cAt l (pfx l i).1)=false:=by
  cases h:nrB (cAt l (pfx l i).1)
  ·rfl
  ·exact absurd (.inr h) hc
 have hf:(pfx l i).2.2=1∨(pfx l i).2.2=2:=by
  by_cases h1:(pfx l i).2.2=1
  ·exact .inl h1
  ·by_cases h2:(pfx l i).2.2=2
   ·exact .inr h2
   ·exact absurd (by unfold num;rw[if_neg hc,if_neg h1,if_neg h2]) hk
 have ht2:(pfx l i).1≤T:=by
  unfold num at ht;rw[if_neg hc] at ht
  rcases hf with h | h
  ·rw[if_pos h] at ht;exact ht
  ·rw[if_neg (by rw[h];decide),if_pos h] at ht;exact ht
 have he:=zol H (by rcases hf with h | h <;> rw[h] <;> decide) ht2 h46 hnr
 have hc':¬ (cAt l' (pfx l i).1=46∨nrB (cAt l' (pfx l i).1)=true):=by
  by_cases h1:(pfx l i).1<T
  ·rw[H.at_ h1];exact hc
  ·have h2:(pfx l i).1=T:=by omega
   rw[h2,H.nl]
   decide
 unfold num;rw[he,if_neg hc,if_neg hc']
theorem zhU {p i:Nat} (hi:i≤T):insZ l' p i=insZ l p i:=by
 unfold insZ
 have e:∀ m:List Int,(m.drop p).take (i - p)=((m.take T).drop p).take (i - p):=fun m=>by
  rw[List.drop_take,List.take_take,Nat.min_eq_left (by omega)]
 rw[e l',e l,H.tk]
theorem zkI {i:Nat} (hi:i+2<T):tq l' i=tq l i:=by
 unfold tq;rw[H.at_ (by omega),H.at_ (by omega),H.at_ hi]
theorem zfs:∀ (k j i:Nat),endB l k j=some i→i+3≤T→∀ k',i<j+k'→endB l' k' j=some i
 | 0,j,i,h,_,_,_=>by cases h
 | k+1,j,i,h,hT,k',hk'=>by
  have hle:=zeh l _ _ _ h
  cases k' with
  | zero=>omega
  | succ k' =>
   unfold endB at h ⊢;rw[zkI H (by omega)]
   split at h
   ·rename_i ht;rw[if_pos ht];exact h
   rename_i ht;rw[if_neg ht]
   have hji:j<i:=by
    rcases Nat.lt_or_ge j i with h1 | h1
    ·exact h1
    ·exfalso
     have:j=i:=by omega
     rw[this] at ht;exact ht hle.2
   rw[H.at_ (by omega),zkI H (by omega)]
   split at h
   ·rename_i h2;rw[if_pos h2];exact zfs k _ i h hT k' (by omega)
   rename_i h2;rw[if_neg h2]
   split at h
   ·cases h
   ·rename_i h3;rw[if_neg h3];exact zfs k _ i h hT k' (by omega)
theorem zfu:∀ (k j i:Nat),endQ l k j=some i→i+1≤T→∀ k',i<j+k'→endQ l' k' j=some i
 | 0,j,i,h,_,_,_=>by cases h
 | k+1,j,i,h,hT,k',hk'=>by
  have hle:=zej l _ _ _ h
  cases k' with
  | zero=>omega
  | succ k' =>
   unfold endQ at h ⊢;rw[H.at_ (by omega)]
   split at h
   ·rename_i ht;rw[if_pos ht];exact h
   rename_i ht;rw[if_neg ht]
   have hji:j<i:=by
    rcases Nat.lt_or_ge j i with h1 | h1
    ·exact h1
    ·exfalso
     have:j=i:=by omega
     rw[this] at ht;exact ht hle.2
   rw[H.at_ (i:=j+1) (by omega)]
   split at h
   ·rename_i h2
    rw[if_pos h2]
    split at h
    ·cases h
    ·rename_i h3;rw[if_neg h3];exact zfu k _ i h hT k' (by omega)
   rename_i h2;rw[if_neg h2]
   split at h
   ·cases h
   ·rename_i h3;rw[if_neg h3];exact zfu k _ i h hT k' (by omega)
theorem zor {cl cl':Bool} {F:Nat} (hF:F≤l.length) (h0:(rdG l cl F).1 ≠ 0) (h1:(rdG l cl F).1 ≠ 1) (ht:(rdG l cl F).2.1≤T):rdG l' cl' F=rdG l cl F:=by
 have hle:=zih l cl F hF;have hFT:F<T:=by rcases hle.2.2 with h | h | h;exact absurd h h0;exact absurd h h1;omega
 have hc:=H.at_ hFT;have hlt:=H.lt;have hn0:¬ (F=l.length∧cl=true):=fun e=>h0 (by unfold rdG;rw[if_pos e])
 have hn0':¬ (F=l'.length∧cl'=true):=fun e=>by omega
 unfold rdG at h0 h1 ht ⊢;rw[if_neg hn0] at h0 h1 ht ⊢;rw[if_neg hn0',hc]
 split
 ·rename_i h46
  rw[if_pos h46] at h0 h1 ht
  by_cases hd:cAt l (F+1)=46∧cAt l (F+2)=46
  ·rw[if_pos hd] at ht
   simp only at ht;rw[if_pos hd,H.at_ (by omega),H.at_ (by omega),if_pos hd]
  ·rw[if_neg hd] at h1;exact absurd rfl h1
 rename_i h46
 rw[if_neg h46] at h0 h1 ht
 split
 ·rfl
 rename_i hpu
 rw[if_neg hpu] at h0 h1 ht
 split
 ·rename_i hns
  rw[if_pos hns] at ht;simp only at ht;rw[zj9 H (T+1) (F+1) (by omega) ht]
 rename_i hns
 rw[if_neg hns] at h0 h1 ht
 split
 ·rename_i hnu
  rw[if_pos hnu] at h1 ht;simp only at h1 ht;rw[zoc H h1 ht]
 rename_i hnu
 rw[if_neg hnu] at h0 h1 ht
 by_cases htq:tq l F=true
 ·rw[if_pos htq] at h1 ht
  have h3:=zgQ l F htq
  have key:∃ i,endB l (l.length+2) (F+3)=some i:=by
   unfold blc at h1
   cases e:endB l (l.length+2) (F+3) with
   | none=>rw[e] at h1;exact absurd rfl h1
   | some i=>exact⟨i,rfl⟩
  obtain⟨i,hi⟩:=key;have hib:=zeh l _ _ _ hi;have hto:(blc sv.bS l F).2.1=i+3:=by unfold blc;rw[hi];rfl
  rw[hto] at ht;have htq':tq l' F=true:=by rw[zkI H (by omega)];exact htq
  rw[if_pos htq',if_pos htq];have he:=zfs H _ _ _ hi ht (l'.length+2) (by omega)
  unfold blc;rw[he,hi];simp only[blcR];rw[zhU H (by omega)]
 ·rw[if_neg htq] at h0 h1 ht
  by_cases h34:cAt l F=34
  ·rw[if_pos h34] at h1 ht
   have key:∃ i r,endQ l (l.length+2) (F+1)=some i∧quo (insZ l (F+1) i)=some r:=by
    unfold qtd at h1
    cases e:endQ l (l.length+2) (F+1) with
    | none=>rw[e] at h1;exact absurd rfl h1
    | some i =>
     rw[e] at h1;simp only[qtdR] at h1
     cases e2:quo (insZ l (F+1) i) with
     | none=>rw[e2] at h1;exact absurd rfl h1
     | some r=>exact⟨i,r,rfl,e2⟩
   obtain⟨i,r,hi,hr⟩:=key;have hib:=zej l _ _ _ hi;have hto:(qtd l F).2.1=i+1:=by unfold qtd;rw[hi];simp only[qtdR,hr]
   rw[hto] at ht
   have htq':¬ tq l' F=true:=by
    intro e;unfold tq at e htq;have e:=of_decide_eq_true e;have h1':cAt l (F+1)=34:=by rw[← H.at_ (by omega)];exact e.2.1
    have hiF:i=F+1:=by
     unfold endQ at hi;rw[if_pos h1'] at hi;exact (Option.some.inj hi).symm
    have h2':cAt l' (F+2)=34:=e.2.2
    by_cases hT2:F+2<T
    ·rw[H.at_ hT2] at h2'
     exact htq (by simp[h34,h1',h2'])
    ·have:F+2=T:=by omega
     rw[this,H.nl] at h2';exact absurd h2' (by decide)
   rw[if_neg htq',if_neg htq,if_pos h34,if_pos h34];have he:=zfu H _ _ _ hi ht (l'.length+2) (by omega)
   unfold qtd;rw[he,hi];simp only[qtdR];rw[zhU H (by omega)]
  ·rw[if_neg h34] at h1;exact absurd rfl h1
theorem zid:∀ (k:Nat),k<T→posT l' k=posT l k
 | 0,_=>rfl
 | k+1,hk=>by
  have ih:=zid k (by omega)
  have h1:=H.lt;have h2:=H.le
  have he:enB l' k=enB l k:=by
   unfold enB prB;rw[H.getD (by omega),H.getD (by omega)]
   simp[show k+1<l.length by omega,show k+1<l'.length by omega]
  simp only[posT,he,ih]
theorem zoJ {cl cl':Bool} {i:Nat} (hi:i≤l.length) (h0:(tkG l cl i).k ≠ 0) (h1:(tkG l cl i).k ≠ 1) (ht:(tkG l cl i).to≤T):tkG l' cl' i=tkG l cl i:=by
 have hF:=(zek l false i).2 hi;have hle:=zih l cl (ign l false i) hF
 have hFT:ign l false i<T:=by
  rcases hle.2.2 with h | h | h
  ·exact absurd h h0
  ·exact absurd h h1
  ·exact Nat.lt_of_lt_of_le h ht
 have hg:=zel H T false i (by omega) hFT
 have hr:=zor H (cl':=cl') hF h0 h1 ht;unfold tkG;rw[hg,hr,zid H _ hFT]
 congr 1
 have e:∀ m:List Int,m.take (rdG l cl (ign l false i)).2.1=(m.take T).take (rdG l cl (ign l false i)).2.1:=fun m=>by
  rw[List.take_take,Nat.min_eq_left (show (rdG l cl (ign l false i)).2.1≤T from ht)]
 rw[e l',e l,H.tk]
end
end Go.Proofs.YtifbkdicglcogaaGreat.lx
