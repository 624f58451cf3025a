import Derived.Test.YtdogjghalplohaaGreatDoorJt13
import Derived.Test.YtdogjghalplohaaGreatDoorJt14
import Derived.Test.YtdogjghalplohaaGreatDoorJt33
set_option linter.unusedVariables false
set_option linter.unusedSimpArgs false
namespace Go.Proofs.YtdogjghalplohaaGreatDoor.jin
open Go.ChangeShapes Go.WideShapes Go.ChangeAt Go.RowKit
open mem Go.Maps
open vl (Vl Vls Fls VlC VlsAt FlsAt Row8 Small SmallI SmallF)
open ints (Hi uh hexV)
theorem nr_ex(s:ByteArray):∃ t:Int × Int × Nat × Int,(s.size≤1050000→fto.RdV (fto.bytZ s) t.1 t.2.1 t.2.2.1 t.2.2.2∧∀ W,dcm.Fz W →
  Calls Tryz.prog 16 #[.string s] W fun x w'=>x = .returned (.tuple #[.agg #[.int .i64 t.1,.int .i64 t.2.1,.float .f64 t.2.2.1],.int .i64 t.2.2.2])∧Below W.heap.size W w')∧(¬s.size≤1050000→t=(0,0,0,20)):=by
 by_cases hs:s.size≤1050000
 ·obtain⟨k,i,f,e,h1,h2⟩:=fto.read_any s hs
  exact⟨(k,i,f,e),fun _=>⟨h1,h2⟩,fun h=>absurd hs h⟩
 ·exact⟨(0,0,0,20),fun h=>absurd h hs,fun _=>rfl⟩
noncomputable def nrO(s:ByteArray):Int × Int × Nat × Int:=Classical.choose (nr_ex s)
theorem nrO_rd{s:ByteArray}(h:s.size≤1050000):fto.RdV (fto.bytZ s) (nrO s).1 (nrO s).2.1 (nrO s).2.2.1 (nrO s).2.2.2:=((Classical.choose_spec (nr_ex s)).1 h).1
theorem nrO_call{s:ByteArray}(h:s.size≤1050000)(W:World)(hW:dcm.Fz W):Calls Tryz.prog 16 #[.string s] W fun x w'=>x = .returned (.tuple #[.agg #[.int .i64 (nrO s).1,.int .i64 (nrO s).2.1,.float .f64 (nrO s).2.2.1],.int .i64 (nrO s).2.2.2])∧Below W.heap.size W w':=((Classical.choose_spec (nr_ex s)).1 h).2 W hW
theorem nrO_big{s:ByteArray}(h:¬s.size≤1050000):nrO s=(0,0,0,20):=(Classical.choose_spec (nr_ex s)).2 h
theorem wf_rng{x:Int}(h1:-9223372036854775808≤x)(h2:x≤9223372036854775807):(Lit.int .i64 x).wf=true:=by
 simp[Lit.wf,IntKind.min,IntKind.max,IntKind.signed,IntKind.bits]
 omega
theorem RdV.rng{l:List Int}{k i:Int}{f:Nat}{e:Int}(h:fto.RdV l k i f e):(k=0∨k=2∨k=3)∧(-9223372036854775808≤i∧i≤9223372036854775807)∧f<18446744073709551616∧(e=0∧k≠0∨e=20∧k=0∨e=7∧k=0):=by
 cases h with
 | none h=>exact⟨.inl rfl,⟨by decide,by decide⟩,by decide,.inr (.inl ⟨rfl,rfl⟩)⟩
 | int ng A h hr =>
  refine⟨.inr (.inl rfl),?_,by decide,.inl ⟨rfl,by decide⟩⟩
  unfold fto.inI at hr
  unfold fto.svI
  cases ng
  ·simp at hr ⊢;omega
  ·simp at hr ⊢;omega
 | flt ng A F E R h hn hR h1 =>
  refine⟨.inr (.inr rfl),⟨by decide,by decide⟩,?_,.inl ⟨rfl,by decide⟩⟩
  rw[fto.infR_num] at h1
  cases ng
  ·simp;omega
  ·simp;omega
 | big ng A F E h hn hR=>exact⟨.inl rfl,⟨by decide,by decide⟩,by decide,.inr (.inr ⟨rfl,rfl⟩)⟩
theorem nrO_rng(s:ByteArray):((nrO s).1=0∨(nrO s).1=2∨(nrO s).1=3)∧(-9223372036854775808≤(nrO s).2.1∧(nrO s).2.1≤9223372036854775807)∧(nrO s).2.2.1<18446744073709551616∧((nrO s).2.2.2=0∧(nrO s).1≠0∨(nrO s).2.2.2=20∧(nrO s).1=0∨(nrO s).2.2.2=7∧(nrO s).1=0):=by
 by_cases h:s.size≤1050000
 ·exact RdV.rng (nrO_rd h)
 ·rw[nrO_big h]
  exact⟨.inl rfl,⟨by decide,by decide⟩,by decide,.inr (.inl ⟨rfl,rfl⟩)⟩
theorem nrO_wf(s:ByteArray):(Lit.int .i64 (nrO s).1).wf=true∧(Lit.int .i64 (nrO s).2.1).wf=true:=by
 obtain⟨h1,h2,-,-⟩:=nrO_rng s
 exact⟨wf_rng (by omega) (by omega),wf_rng h2.1 h2.2⟩
theorem nrO_kind(s:ByteArray):(nrO s).1≠5∧(nrO s).1≠6:=by
 obtain⟨h1,-,-,-⟩:=nrO_rng s
 omega
noncomputable def nmO(Z:List Int)(p:Nat):Except (Nat × Int) (Vl × Nat):=if p≤Z.length then numR Z nrO p else .error (p,50)
def roomD(depth:Int):Nat:=(min (max depth 0) 200).toNat
theorem roomD_ok(depth:Int):(depth<0∧roomD depth=0)∨(depth=roomD depth∧roomD depth≤200)∨(200<depth∧roomD depth=200):=by unfold roomD;omega
noncomputable def RdO(Z:List Int)(depth:Int):Except (Nat × Int) (Vl × Nat):=rdF Z (nmO Z) (roomD depth)
theorem nmO_pos{Z:List Int}:∀ p v p',nmO Z p = .ok (v,p')→p<p'∧p'≤Z.length:=fun p v p' h=>by
 unfold nmO at h
 split at h
 ·rename_i hp;exact numR_pos hp h
 ·cases h
theorem nmO_flat{Z:List Int}:∀ p v p',nmO Z p = .ok (v,p')→dp v=0:=numR_flat nrO_kind
theorem nmO_small{Z:List Int}:∀ p v p',nmO Z p = .ok (v,p')→Small v:=fun p v p' h=>by
 unfold nmO at h
 split at h
 ·unfold numR numF at h
  split at h
  ·cases h
  split at h
  ·injection h with h
   injection h with e1 e2
   rw[←e1]
   exact Small.flat (nrO_rng _).2.2.1
  ·cases h
 ·cases h
theorem RdO_small{Z:List Int}(hl:Z.length≤1099511627776)(depth:Int):Small (rdV (RdO Z depth)):=
 rdF_all nmO_pos Small (Small.flat (by decide)) (fun b=>Small.flat (by decide)) (fun s _=>Small.flat (by decide)) nmO_small (fun L h1 h2=>Small.lst (by omega) h2) (fun F h1 h2=>Small.obj (by omega) (fun m hm=>(h2 m hm).2))
section
variable {a:Option Addr} {n c:Nat} {Z:List Int} {w:World}
theorem read_all(hZ:∀ z∈Z,0≤z∧z≤255)(hn:n≤1099511627776)(hT:∀ p,p<n→(pfx Z p).2.2≠0→(pfx Z p).1-p≤1050000)(hW:dcm.Fz w)(depth:Int)(hrow:Row .u8 w a n c Z) :
  Calls Tryz.prog 10 #[.slice a n c,.int .i64 depth] w fun e w'=>(∃ cs,e = .returned (.tuple #[.agg cs.toArray,.int .i64 (rdA (RdO Z depth)),.int .i64 (rdE (RdO Z depth))])∧FvC w.heap.size none w' (rdV (RdO Z depth)) cs)∧Below w.heap.size w w':=by
 refine read_num hZ hn nrO nrO_wf (fun p u hp hf hb=>?_) depth (roomD depth) (roomD_ok depth) hrow
 refine nrO_call ?_ u (hW.below hb)
 have h1:=hT p hp hf
 have h2:(strOfNums (pcZ Z p (pfx Z p).1)).size≤(pcZ Z p (pfx Z p).1).length:=by simp[strOfNums,ByteArray.size]
 have h3:(pcZ Z p (pfx Z p).1).length≤(pfx Z p).1-p:=by unfold pcZ;simp;omega
 omega
theorem read_few(hZ:∀ z∈Z,0≤z∧z≤255)(hn:n≤1050000)(hW:dcm.Fz w)(depth:Int)(hrow:Row .u8 w a n c Z) :
  Calls Tryz.prog 10 #[.slice a n c,.int .i64 depth] w fun e w'=>(∃ cs,e = .returned (.tuple #[.agg cs.toArray,.int .i64 (rdA (RdO Z depth)),.int .i64 (rdE (RdO Z depth))])∧FvC w.heap.size none w' (rdV (RdO Z depth)) cs)∧Below w.heap.size w w':=by
 refine read_all hZ (by omega) (fun p hp hf=>?_) hW depth hrow
 have hl:=hrow.len
 obtain⟨-,h2,h3,-,-,-,-,-⟩:=pfx_ok Z p (by omega)
 omega
end
open mem
open vl (Vl Vls Fls)
def Er(Z:List Int)(b:Nat × Int):Prop:=b.1≤Z.length∧b.2≠0∧(b.2=71→Opn Z b.1)
theorem Er.js{Z:List Int}{p:Nat}(h:p≤Z.length):Er Z (p,50):=⟨h,by show (50:Int)≠0;decide,fun e=>absurd e (by show (50:Int)≠71;decide)⟩
theorem digF_err{Z:List Int}{s2:Bool}{q:Nat}:∀ (k:Nat) (n:Int) (b:Nat × Int),k≤4→q+(4-k)≤Z.length→digF Z s2 q k n = .error b→Er Z b
 | 0,n,b,_,_,h=>by rw[digF] at h;cases h
 | k+1,n,b,hk,hq,h=>by
  rw[digF] at h
  split at h
  ·split at h
   ·injection h with h
    subst h
    exact Er.js (by omega)
   ·exact digF_err k _ b (by omega) (by omega) h
  ·injection h with h
   subst h
   exact Er.js (by omega)
theorem cdF_err{Z:List Int}{q:Nat}{b:Nat × Int}(hq:q≤Z.length)(h:cdF Z q = .error b):Er Z b:=by
 unfold cdF at h
 cases h1:digF Z false q 4 0 with
 | error b' =>
  rw[h1] at h
  simp only at h
  injection h with h
  subst h
  exact digF_err 4 0 _ (by omega) (by omega) h1
 | ok f =>
  have hl:=digF_len Z false q 3 0 f h1
  rw[h1] at h
  simp only at h
  split at h
  ·cases h
  split at h
  ·split at h
   ·cases h2:digF Z true (q+6) 4 0 with
    | error b' =>
     rw[h2] at h
     simp only at h
     injection h with h
     subst h
     exact digF_err 4 0 _ (by omega) (by omega) h2
    | ok s=>rw[h2] at h;cases h
   ·injection h with h
    subst h
    exact Er.js (by omega)
  ·injection h with h
   subst h
   exact Er.js (by omega)
theorem esF_err{Z:List Int}{q:Nat}{b:Nat × Int}(hq:q≤Z.length)(h:esF Z q = .error b):Er Z b:=by
 unfold esF at h
 split at h
 case isFalse =>
  injection h with h
  subst h
  exact Er.js hq
 rename_i hl
 split at h
 ·cases h
 split at h
 ·cases h
 split at h
 ·cases h
 split at h
 ·cases h
 split at h
 ·cases h
 split at h
 ·cases h
 split at h
 ·exact cdF_err (by omega) h
 ·injection h with h
  subst h
  exact Er.js hq
theorem plR_err{Z:List Int}{q:Nat}{b:Nat × Int}(hq:q≤Z.length)(h:plR Z q = .error b):Er Z b:=by
 have h1:=plE_le hq
 have h2:=glS_le (strOfNums (pcZ Z q (plE Z q)))
 have h3:=pc_size (Z:=Z) (q:=q) (p:=plE Z q)
 unfold plR at h
 split at h
 ·cases h
 ·injection h with h
  subst h
  exact Er.js (by omega)
theorem txG_erb{Z:List Int}:∀ (f q:Nat) (acc:List Int) (b:Nat × Int),q≤Z.length→txG Z f q acc = .error b→Er Z b
 | 0,q,acc,b,hq,h=>by
  rw[txG] at h
  injection h with h
  subst h
  exact Er.js hq
 | f+1,q,acc,b,hq,h=>by
  rw[txG] at h
  cases h1:plR Z q with
  | error b' =>
   rw[h1] at h
   simp only at h
   injection h with h
   subst h
   exact plR_err hq h1
  | ok x =>
   obtain⟨s,p⟩:=x
   have hp:=plR_pos hq h1
   rw[h1] at h
   simp only at h
   split at h
   ·split at h
    ·cases h
    split at h
    ·cases h2:esF Z (p+1) with
     | error b' =>
      rw[h2] at h
      simp only[exB] at h
      injection h with h
      subst h
      exact esF_err (by omega) h2
     | ok y =>
      obtain⟨r,q'⟩:=y
      rw[h2] at h
      simp only[exB] at h
      exact txG_erb f q' _ b (esF_sc h2).2.2.2 h
    ·injection h with h
     subst h
     exact Er.js (by omega)
   ·injection h with h
    subst h
    exact Er.js (by omega)
theorem txR_err{Z:List Int}{q:Nat}{b:Nat × Int}(hq:q≤Z.length)(h:txR Z q = .error b):Er Z b:=by
 unfold txR at h
 split at h
 ·rename_i hl
  cases h1:txG Z (Z.length+1) (q+1) [] with
  | error b' =>
   rw[h1] at h
   simp only[txE] at h
   injection h with h
   subst h
   exact txG_erb _ _ _ _ (by omega) h1
  | ok y=>rw[h1] at h;cases h
 ·injection h with h
  subst h
  exact Er.js hq
theorem wdF_err{Z:List Int}:∀ (l:List Int) (q:Nat) (b:Nat × Int),q≤Z.length→wdF Z l q = .error b→Er Z b
 | [],q,b,hq,h=>by rw[wdF] at h;cases h
 | z::r,q,b,hq,h=>by
  rw[wdF] at h
  split at h
  ·exact wdF_err r (q+1) b (by omega) h
  ·injection h with h
   subst h
   exact Er.js hq
theorem wV_err{Z:List Int}{v:Vl}{l:List Int}{q:Nat}{b:Nat × Int}(hq:q≤Z.length)(h:wV v (wdF Z l q) = .error b):Er Z b:=by
 cases h1:wdF Z l q with
 | error b' =>
  rw[h1] at h
  simp only[wV] at h
  injection h with h
  subst h
  exact wdF_err l q _ hq h1
 | ok p=>rw[h1] at h;cases h
section
variable {σ:Type} {Z:List Int}
theorem elF_err{step:σ→Nat→Except (Nat × Int) (σ × Nat)}{shut:Int}(hp:∀ st q st' q',step st q = .ok (st',q')→q'≤Z.length)(hs:∀ st q b,q≤Z.length→step st q = .error b→Er Z b):∀ (f:Nat) (st:σ) (q:Nat) (b:Nat × Int),q≤Z.length→elF Z step shut f st q = .error b→Er Z b
 | 0,st,q,b,hq,h=>by
  rw[elF] at h
  injection h with h
  subst h
  exact Er.js hq
 | f+1,st,q,b,hq,h=>by
  rw[elF] at h
  cases h1:step st q with
  | error b' =>
   rw[h1] at h
   simp only[exB] at h
   injection h with h
   subst h
   exact hs _ _ _ hq h1
  | ok y =>
   obtain⟨st',q'⟩:=y
   have hb:=blE_le (hp _ _ _ _ h1)
   rw[h1] at h
   simp only[exB] at h
   split at h
   ·split at h
    ·exact elF_err hp hs f _ _ b (blE_le (by omega)).2 h
    split at h
    ·cases h
    ·injection h with h
     subst h
     exact Er.js hb.2
   ·injection h with h
    subst h
    exact Er.js hb.2
theorem brF_err{step:σ→Nat→Except (Nat × Int) (σ × Nat)}{shut:Int}(hp:∀ st q st' q',step st q = .ok (st',q')→q'≤Z.length){room q:Nat}{st:σ}{b:Nat × Int}(hs:room≠0→∀ st q b,q≤Z.length→step st q = .error b→Er Z b)(hq:Opn Z q)(h:brF Z step shut room q st = .error b):Er Z b:=by
 have hq1:=hq.1
 have hb:=blE_le (Z:=Z) (p:=q+1) (by omega)
 unfold brF at h
 split at h
 ·injection h with h
  subst h
  exact⟨by show q≤Z.length;omega,by show (71:Int)≠0;decide,fun _=>hq⟩
 rename_i hr
 split at h
 ·split at h
  ·cases h
  ·cases h1:elF Z step shut (Z.length+1) st (blE Z (q+1)) with
   | error b' =>
    rw[h1] at h
    simp only[exB] at h
    injection h with h
    subst h
    exact elF_err hp (hs hr) _ _ _ _ hb.2 h1
   | ok y=>rw[h1] at h;cases h
 ·injection h with h
  subst h
  exact Er.js hb.2
end
theorem vrF_err{Z:List Int}{nm:Nat→Except (Nat × Int) (Vl × Nat)}(hnm:∀ p v p',nm p = .ok (v,p')→p<p'∧p'≤Z.length)(hne:∀ p b,p≤Z.length→nm p = .error b→Er Z b):∀ (f room q:Nat) (b:Nat × Int),q≤Z.length→vrF Z nm f room q = .error b→Er Z b
 | 0,room,q,b,hq,h=>by
  rw[vrF] at h
  injection h with h
  subst h
  exact Er.js hq
 | f+1,room,q,b,hq,h=>by
  have ih:=vrF_err hnm hne f (room-1)
  have ip:=fun q v q'=>vrF_pos hnm f (room-1) q v q'
  rw[vrF] at h
  split at h
  case isFalse =>
   injection h with h
   subst h
   exact Er.js hq
  rename_i hl
  unfold dvF at h
  split at h
  ·exact wV_err hq h
  split at h
  ·exact wV_err hq h
  split at h
  ·exact wV_err hq h
  split at h
  ·cases h1:txR Z q with
   | error b' =>
    rw[h1] at h
    simp only[tV] at h
    injection h with h
    subst h
    exact txR_err hq h1
   | ok y=>rw[h1] at h;cases h
  split at h
  ·rename_i g5
   cases h1:brF Z (stepL (vrF Z nm f (room-1))) 93 room q [] with
   | error b' =>
    rw[h1] at h
    simp only[exB] at h
    injection h with h
    subst h
    refine brF_err (fun st q st' q' hs=>(stepL_pos ip st q st' q' hs).2) (fun _ st q b hq hs=>?_) ⟨hl,.inl g5⟩ h1
    unfold stepL at hs
    cases h2:vrF Z nm f (room-1) q with
    | error b' =>
     rw[h2] at hs
     simp only[exB] at hs
     injection hs with hs
     subst hs
     exact ih _ _ hq h2
    | ok y=>rw[h2] at hs;cases hs
   | ok y=>rw[h1] at h;cases h
  split at h
  ·rename_i g6
   cases h1:brF Z (stepO Z (vrF Z nm f (room-1))) 125 room q [] with
   | error b' =>
    rw[h1] at h
    simp only[exB] at h
    injection h with h
    subst h
    refine brF_err (fun st q st' q' hs=>(stepO_pos ip st q st' q' hs).2) (fun _ st q b hq hs=>?_) ⟨hl,.inr g6⟩ h1
    unfold stepO at hs
    cases h2:txR Z q with
    | error b' =>
     rw[h2] at hs
     simp only[exB] at hs
     injection hs with hs
     subst hs
     exact txR_err hq h2
    | ok y =>
     obtain⟨s,qa⟩:=y
     have ht:=txR_len h2
     have hb:=blE_le (Z:=Z) (p:=qa) (by omega)
     rw[h2] at hs
     simp only[exB] at hs
     split at hs
     ·injection hs with hs
      subst hs
      exact⟨by show q≤Z.length;omega,by show (5:Int)≠0;decide,fun e=>absurd e (by show (5:Int)≠71;decide)⟩
     split at hs
     ·cases h3:vrF Z nm f (room-1) (blE Z (blE Z qa+1)) with
      | error b' =>
       rw[h3] at hs
       simp only at hs
       injection hs with hs
       subst hs
       exact ih _ _ (blE_le (by omega)).2 h3
      | ok y=>rw[h3] at hs;cases hs
     ·injection hs with hs
      subst hs
      exact Er.js hb.2
   | ok y=>rw[h1] at h;cases h
  ·exact hne _ _ hq h
theorem rdF_err{Z:List Int}{nm:Nat→Except (Nat × Int) (Vl × Nat)}(hnm:∀ p v p',nm p = .ok (v,p')→p<p'∧p'≤Z.length)(hne:∀ p b,p≤Z.length→nm p = .error b→Er Z b){room:Nat}{b:Nat × Int}(h:rdF Z nm room = .error b):Er Z b:=by
 have hb:=blE_le (Z:=Z) (p:=0) (Nat.zero_le _)
 unfold rdF whF at h
 cases h1:vrF Z nm (Z.length+1) room (blE Z 0) with
 | error b' =>
  rw[h1] at h
  simp only[exB] at h
  injection h with h
  subst h
  exact vrF_err hnm hne _ _ _ _ hb.2 h1
 | ok y =>
  obtain⟨v,q⟩:=y
  rw[h1] at h
  simp only[exB] at h
  split at h
  ·injection h with h
   subst h
   exact Er.js (by omega)
  ·cases h
theorem nmO_err{Z:List Int}:∀ p b,p≤Z.length→nmO Z p = .error b→Er Z b:=fun p b hp h=>by
 unfold nmO at h
 rw[if_pos hp] at h
 unfold numR numF at h
 obtain⟨q1,q2,q3,-,-,-,-,-⟩:=pfx_ok Z p hp
 split at h
 ·injection h with h
  subst h
  exact Er.js q3
 split at h
 ·cases h
 ·rename_i g
  injection h with h
  subst h
  obtain⟨-,-,-,h4⟩:=nrO_rng (strOfNums (pcZ Z p (pfx Z p).1))
  exact⟨hp,g,fun e=>by simp only at e;omega⟩
theorem RdO_err{Z:List Int}{depth:Int}{b:Nat × Int}(h:RdO Z depth = .error b):Er Z b:=rdF_err nmO_pos nmO_err h
def Dd(c:Int):Prop:=∀ st,stepZ st c<0
theorem dd_of{c:Int}(h:c=44∨c=93∨c=125):Dd c:=by
 intro st
 have hd:digB c=false:=by unfold digB;rcases h with h | h | h <;> subst h <;> decide
 unfold stepZ
 rw[hd]
 rcases h with h | h | h <;> subst h <;> simp <;> (repeat' split) <;> omega
theorem runF_dead{l X:List Int}{c:Int}(hc:Dd c):∀ (m k e:Nat) (st f:Int),m+k=l.length→runF (l++c::X) (m+(X.length+1)) st e f k=runF l m st e f k
 | 0,k,e,st,f,h=>by
  have hk:k=l.length:=by omega
  subst hk
  have:(l++c::X).getD l.length 0=c:=by rw[List.getD_eq_getElem?_getD,List.getElem?_append_right (Nat.le_refl _)];simp
  rw[show 0+(X.length+1)=X.length+1 by omega,runF,runF,this,if_pos (hc _)]
 | m+1,k,e,st,f,h=>by
  rw[show m+1+(X.length+1)=(m+(X.length+1))+1 by omega,runF,runF,getD_ext (by omega)]
  split
  ·rfl
  ·split
   ·exact runF_dead hc m (k+1) (k+1) _ _ (by omega)
   ·exact runF_dead hc m (k+1) e _ _ (by omega)
theorem pfx_dead{l X:List Int}{c:Int}(hc:Dd c)(p:Nat)(hp:p≤l.length):pfx (l++c::X) p=pfx l p:=by
 rw[←pfx_run l p hp,←pfx_run (l++c::X) p (by rw[List.length_append];omega)]
 unfold run
 rw[show (l++c::X).length-p=(l.length-p)+(X.length+1) by rw[List.length_append,List.length_cons];omega]
 exact runF_dead hc _ _ _ _ _ (by omega)
theorem nmO_dead{Z X:List Int}{c:Int}(hc:Dd c)(p:Nat)(hp:p≤Z.length):nmO (Z++c::X) p=nmO Z p:=by
 have h3:=(pfx_ok Z p hp).sl
 have h2:=(pfx_ok Z p hp).es
 unfold nmO numR
 rw[if_pos hp,if_pos (by rw[List.length_append];omega),pfx_dead hc p hp,pcZ_ext hp (by omega)]
theorem nmO_sh{P Z:List Int}(p:Nat)(hp:p≤Z.length):nmO (P++Z) (P.length+p)=sh P.length (nmO Z p):=by
 unfold nmO
 rw[if_pos hp,if_pos (by rw[List.length_append];omega)]
 exact numR_sh P Z nrO p hp
structure Whl (Z:List Int) (room:Nat) (v:Vl) (p1:Nat):Prop where
 val:vrF Z (nmO Z) (Z.length+1) room (blE Z 0) = .ok (v,p1)
 lo:blE Z 0<p1
 hi:p1≤Z.length
 bl:blE Z p1=Z.length
theorem whl_of{Z:List Int}{depth:Int}{v:Vl}{p:Nat}(h:RdO Z depth = .ok (v,p)):∃ p1,Whl Z (roomD depth) v p1:=by
 unfold RdO rdF whF at h
 cases h1:vrF Z (nmO Z) (Z.length+1) (roomD depth) (blE Z 0) with
 | error b=>rw[h1] at h;cases h
 | ok b =>
  obtain⟨u,q⟩:=b
  rw[h1] at h
  simp only[exB] at h
  split at h
  ·cases h
  rename_i g
  injection h with h
  injection h with e1 e2
  subst e1
  obtain⟨a,b⟩:=vrF_pos nmO_pos _ _ _ _ _ h1
  exact⟨q,h1,a,b,by have:=(blE_le b).2;omega⟩
theorem vrF_open{Z:List Int}{f room q:Nat}{r:Vl × Nat}(h:vrF Z (nmO Z) f room q = .ok r):q<Z.length∧Z.getD q 0≠93∧Z.getD q 0≠125:=by
 cases f with
 | zero=>rw[vrF] at h;cases h
 | succ f =>
  rw[vrF] at h
  split at h
  case isFalse=>cases h
  rename_i hq
  have key:∀ c,c=93∨c=125→Z.getD q 0=c→False:=fun c hc e=>by
   have hd:Dd (Z.getD q 0):=by rw[e];exact dd_of (.inr hc)
   unfold dvF at h
   rw[if_neg (by omega),if_neg (by omega),if_neg (by omega),if_neg (by omega),if_neg (by omega),if_neg (by omega)] at h
   have hp:pfx Z q=(q,q,0):=by
    rw[←pfx_run Z q (by omega)]
    unfold run
    rw[show Z.length-q=(Z.length-q-1)+1 by omega,runF,if_pos (hd 0)]
   unfold nmO numR numF at h
   rw[if_pos (by omega),hp,if_pos (.inl rfl)] at h
   cases h
  exact⟨hq,fun e=>key _ (.inl rfl) e,fun e=>key _ (.inr rfl) e⟩
section
variable {P Z X L:List Int} {c:Int} {room p1:Nat} {v:Vl}
theorem put_lead(hL:L=P++(Z++c::X))(h:Whl Z room v p1):blE L P.length=P.length+blE Z 0∧P.length+blE Z 0<L.length∧L.getD (P.length+blE Z 0) 0≠93∧L.getD (P.length+blE Z 0) 0≠125:=by
 have h1:=blE_sh (P:=P) (Z:=Z++c::X) (q:=0)
 have h2:=h.lo
 have h3:=h.hi
 rw[Nat.add_zero,blE_ext (Nat.zero_le _) (by omega)] at h1
 obtain⟨h4,h5,h6⟩:=vrF_open h.val
 subst hL
 refine⟨h1,by rw[List.length_append,List.length_append];omega,?_,?_⟩
 ·rw[getD_sh,getD_ext h4];exact h5
 ·rw[getD_sh,getD_ext h4];exact h6
theorem put_tail(hL:L=P++(Z++c::X))(h:Whl Z room v p1)(hc:blB c=false):blE L (P.length+p1)=P.length+Z.length∧P.length+Z.length<L.length∧L.getD (P.length+Z.length) 0=c:=by
 have h3:=h.hi
 have hb:blE (Z++c::X) p1=Z.length:=by
  have hz:=h.bl
  unfold blE at hz ⊢
  rw[drop_ext h3,List.takeWhile_append,if_pos (by rw[List.length_drop];omega),List.takeWhile_cons,if_neg (by rw[hc];decide),List.append_nil,List.length_drop]
  omega
 subst hL
 refine⟨by rw[blE_sh,hb],by rw[List.length_append,List.length_append,List.length_cons];omega,?_⟩
 rw[getD_sh,List.getD_eq_getElem?_getD,List.getElem?_append_right (Nat.le_refl _)]
 simp
theorem put_val(hL:L=P++(Z++c::X))(h:Whl Z room v p1)(hc:Dd c)(hP:0<P.length)(r:Nat)(hr:dp v≤r):vrF L (nmO L) L.length r (P.length+blE Z 0) = .ok (v,P.length+p1):=by
 have h1:=((vrF_two nmO_flat _ _ _ _ _ h.val).2 r).1 hr
 have h2:=vrF_ext (W:=c::X) (nm':=nmO (Z++c::X)) nmO_pos (fun p r hp hr=>by rw[nmO_dead hc p (by omega)];exact hr) (Z.length+1) ((Z++c::X).length+1) r (blE Z 0) _ (by rw[List.length_append];omega) h1
 have hb:=blE_le (Z:=Z) (p:=0) (Nat.zero_le _)
 have hll:(P++(Z++c::X)).length=P.length+(Z++c::X).length:=List.length_append
 have h3:=vrF_sh (P:=P) (Z:=Z++c::X) (nm:=nmO (Z++c::X)) (nm':=nmO (P++(Z++c::X))) nmO_pos (fun p hp=>nmO_sh p (by omega)) (P++(Z++c::X)).length ((Z++c::X).length+1) r (blE Z 0) (by rw[List.length_append];omega) (by omega) (by omega)
 subst hL
 rw[h3,h2]
 rfl
theorem put_deep(hL:L=P++(Z++c::X))(h:Whl Z room v p1)(hc:Dd c)(hP:0<P.length)(r:Nat)(hr:r<dp v):∃ k,vrF L (nmO L) L.length r (P.length+blE Z 0) = .error (k,71):=by
 obtain⟨k,hk,-⟩:=((vrF_two nmO_flat _ _ _ _ _ (put_val hL h hc hP (dp v) (Nat.le_refl _))).2 r).2 hr
 exact⟨k,hk⟩
end
theorem blE_front{W Y:List Int}(hW:∀ z∈W,blB z=true):blE (W++Y) 0=W.length+blE Y 0:=by
 unfold blE
 rw[List.drop_zero,List.drop_zero,List.takeWhile_append_of_pos hW,List.length_append]
 omega
theorem blE_head{c:Int}{Y:List Int}(hc:blB c=false):blE (c::Y) 0=0:=blE_no (by simp) (by simpa using hc)
section
variable {W Z:List Int} {room p1:Nat} {v:Vl}
def lstZ(W Z:List Int):List Int:=W++(91::(Z++44::(W++(Z++[93]))))
theorem read_lst(hW:∀ z∈W,blB z=true)(h:Whl Z room v p1)(r:Nat)(hr:r≠0):(dp v≤r-1→∃ p,rdF (lstZ W Z) (nmO (lstZ W Z)) r = .ok (listV [v,v],p))∧(r-1<dp v→∃ k,rdF (lstZ W Z) (nmO (lstZ W Z)) r = .error (k,71)):=by
 obtain⟨L,hL⟩:∃ L,L=lstZ W Z:=⟨_,rfl⟩
 rw[←hL]
 have e1:L=(W++[91])++(Z++44::(W++(Z++[93]))):=by rw[hL];unfold lstZ;simp
 have e2:L=(W++[91]++Z++[44]++W)++(Z++93::[]):=by rw[hL];unfold lstZ;simp
 obtain⟨P1,hP1⟩:∃ P1,P1=W++[91]:=⟨_,rfl⟩
 obtain⟨P2,hP2⟩:∃ P2,P2=W++[91]++Z++[44]++W:=⟨_,rfl⟩
 rw[←hP1] at e1
 rw[←hP2] at e2
 have n1:P1.length=W.length+1:=by rw[hP1];simp
 have n2:P2.length=P1.length+Z.length+1+W.length:=by rw[hP2,n1];simp <;> omega
 obtain⟨a1,a2,a3,-⟩:=put_lead e1 h
 obtain⟨b1,b2,b3⟩:=put_tail e1 h (by decide)
 obtain⟨c1,c2,c3,-⟩:=put_lead e2 h
 obtain⟨d1,d2,d3⟩:=put_tail e2 h (by decide)
 have hlead:blE L 0=W.length:=by rw[hL];unfold lstZ;rw[blE_front hW,blE_head (by decide)];rfl
 have h91:L.getD W.length 0=91:=by
  rw[hL]
  unfold lstZ
  rw[List.getD_eq_getElem?_getD,List.getElem?_append_right (Nat.le_refl _)]
  simp
 have hmid:blE L (P1.length+Z.length+1)=P2.length+blE Z 0:=by
  have e3:L=(P1++Z++[44])++(W++(Z++[93])):=by rw[e1];simp
  have:=blE_sh (P:=P1++Z++[44]) (Z:=W++(Z++[93])) (q:=0)
  rw[←e3,blE_front hW] at this
  have hz:=h.lo
  have hz2:=h.hi
  rw[blE_ext (Nat.zero_le _) (by omega)] at this
  have n3:(P1++Z++[44]).length=P1.length+Z.length+1:=by simp <;> omega
  rw[n3,Nat.add_zero] at this
  rw[this,n2]
  omega
 have hlen:L.length=P2.length+Z.length+1:=by rw[e2];simp <;> omega
 have hend:blE L (P2.length+Z.length+1)=L.length:=by rw[blE_end (by omega)];omega
 have hopen:∀ s:List Vl→Nat→Except (Nat × Int) (List Vl × Nat),brF L s 93 r W.length []=exB (fun st' p=>.ok (st',p+1)) (elF L s 93 (L.length+1) [] (P1.length+blE Z 0)):=fun s=>by
  unfold brF
  rw[if_neg hr,show W.length+1=P1.length by omega,a1,if_pos a2,if_neg a3]
 have hrd:rdF L (nmO L) r=exB (fun v q'=>if blE L q'<L.length then .error (blE L q',50) else .ok (v,blE L q')) (exB (fun M q'=>.ok (listV M,q')) (brF L (stepL (vrF L (nmO L) L.length (r-1))) 93 r W.length [])):=by
  unfold rdF whF
  rw[hlead,vrF,if_pos (by omega)]
  unfold dvF
  rw[if_neg (by omega),if_neg (by omega),if_neg (by omega),if_neg (by omega),if_pos h91]
 refine⟨fun hd=>?_,fun hd=>?_⟩
 ·have s1:stepL (vrF L (nmO L) L.length (r-1)) [] (P1.length+blE Z 0) = .ok ([v],P1.length+p1):=by
   unfold stepL
   rw[put_val e1 h (dd_of (by omega)) (by omega) (r-1) hd]
   rfl
  have s2:stepL (vrF L (nmO L) L.length (r-1)) [v] (P2.length+blE Z 0) = .ok ([v,v],P2.length+p1):=by
   unfold stepL
   rw[put_val e2 h (dd_of (by omega)) (by omega) (r-1) hd]
   rfl
  refine⟨L.length,?_⟩
  rw[hrd,hopen,elF,s1]
  simp only[exB]
  rw[b1,if_pos b2,if_pos b3,hmid,show L.length=(L.length-1)+1 by omega,elF,show (L.length-1)+1=L.length by omega,s2]
  simp only[exB]
  rw[d1,if_pos d2,if_neg (by omega),if_pos d3]
  simp only
  rw[hend,if_neg (by omega)]
 ·obtain⟨k,hk⟩:=put_deep e1 h (dd_of (by omega)) (by omega) (r-1) hd
  refine⟨k,?_⟩
  have s1:stepL (vrF L (nmO L) L.length (r-1)) [] (P1.length+blE Z 0) = .error (k,71):=by
   unfold stepL
   rw[hk]
   rfl
  rw[hrd,hopen,elF,s1]
  rfl
def objZ(W Z:List Int):List Int:=[123,34,107,34]++(W++(58::(Z++[125])))
theorem read_obj(hW:∀ z∈W,blB z=true)(h:Whl Z room v p1)(r:Nat)(hr:r≠0):(dp v≤r-1→∃ p,rdF (objZ W Z) (nmO (objZ W Z)) r = .ok (objV [(⟨#[107]⟩,v)],p))∧(r-1<dp v→∃ k,rdF (objZ W Z) (nmO (objZ W Z)) r = .error (k,71)):=by
 obtain⟨L,hL⟩:∃ L,L=objZ W Z:=⟨_,rfl⟩
 rw[←hL]
 have e1:L=([123,34,107,34]++W++[58])++(Z++125::[]):=by rw[hL];unfold objZ;simp
 obtain⟨P1,hP1⟩:∃ P1:List Int,P1=[123,34,107,34]++W++[58]:=⟨_,rfl⟩
 rw[←hP1] at e1
 have n1:P1.length=W.length+5:=by rw[hP1];simp <;> omega
 obtain⟨a1,a2,-,a4⟩:=put_lead e1 h
 obtain⟨b1,b2,b3⟩:=put_tail e1 h (by decide)
 have hlen:L.length=P1.length+Z.length+1:=by rw[e1];simp <;> omega
 have hlead:blE L 0=0:=by rw[hL];exact blE_head (by decide)
 have h123:L.getD 0 0=123:=by rw[hL];rfl
 have h34:L.getD 1 0=34:=by rw[hL];rfl
 have hb1:blE L 1=1:=blE_no (by omega) (by rw[h34];decide)
 have htx:txR L 1 = .ok (⟨#[107]⟩,4):=by
  rw[hL]
  exact txR_ext (Z:=[123,34,107,34]) (by kernel_rfl)
 have hb4:blE L 4=W.length+4:=by
  have:=blE_sh (P:=[123,34,107,34]) (Z:=W++(58::(Z++[125]))) (q:=0)
  rw[blE_front hW,blE_head (by decide)] at this
  rw[hL]
  unfold objZ
  have h2:blE ([123,34,107,34]++(W++58::(Z++[125]))) 4=4+(W.length+0):=this
  rw[h2]
  omega
 have h58:L.getD (W.length+4) 0=58:=by
  have:=getD_sh (P:=[123,34,107,34]) (Z:=W++(58::(Z++[125]))) (q:=W.length)
  rw[hL]
  unfold objZ
  rw[show W.length+4=([123,34,107,34]:List Int).length+W.length by simp <;> omega,this,List.getD_eq_getElem?_getD,List.getElem?_append_right (Nat.le_refl _)]
  simp
 have hend:blE L (P1.length+Z.length+1)=L.length:=by rw[blE_end (by omega)];omega
 have hopen:∀ s:List (ByteArray × Vl)→Nat→Except (Nat × Int) (List (ByteArray × Vl) × Nat),brF L s 125 r 0 []=exB (fun st' p=>.ok (st',p+1)) (elF L s 125 (L.length+1) [] 1):=fun s=>by
  unfold brF
  rw[if_neg hr,show 0+1=1 by rfl,hb1,if_pos (by omega),if_neg (by omega)]
 have hrd:rdF L (nmO L) r=exB (fun v q'=>if blE L q'<L.length then .error (blE L q',50) else .ok (v,blE L q')) (exB (fun M q'=>.ok (objV M,q')) (brF L (stepO L (vrF L (nmO L) L.length (r-1))) 125 r 0 [])):=by
  unfold rdF whF
  rw[hlead,vrF,if_pos (by omega)]
  unfold dvF
  rw[if_neg (by omega),if_neg (by omega),if_neg (by omega),if_neg (by omega),if_neg (by omega),if_pos h123]
 have hst:stepO L (vrF L (nmO L) L.length (r-1)) [] 1=exB (fun v q'=>.ok ([]++[((⟨#[107]⟩:ByteArray),v)],q')) (vrF L (nmO L) L.length (r-1) (P1.length+blE Z 0)):=by
  unfold stepO
  rw[htx]
  simp only[exB]
  rw[if_neg (by simp),hb4,if_pos ⟨by omega,h58⟩,show W.length+4+1=P1.length by omega,a1]
 refine⟨fun hd=>?_,fun hd=>?_⟩
 ·refine⟨L.length,?_⟩
  rw[hrd,hopen,elF,hst,put_val e1 h (dd_of (by omega)) (by omega) (r-1) hd]
  simp only[exB]
  rw[b1,if_pos b2,if_neg (by omega),if_pos b3]
  simp only[List.nil_append]
  rw[hend,if_neg (by omega)]
 ·obtain⟨k,hk⟩:=put_deep e1 h (dd_of (by omega)) (by omega) (r-1) hd
  exact⟨k,by rw[hrd,hopen,elF,hst,hk];rfl⟩
end
def z15:List Int:=[32,91,110,117,108,108,44,32,123,34,97,34,58,49,46,53,125,93]
def z1c:List Int:=[91,49,44,93]
def obj15(v:Vl):Vl:=listV [nulV,objV [(⟨#[97]⟩,v)]]
theorem rd15(nm:Nat→Except (Nat × Int) (Vl × Nat))(v:Vl)(h:nm 13 = .ok (v,16)):rdF z15 nm 2 = .ok (obj15 v,18):=by
 have e1:vrF z15 nm 17 0 13=nm 13:=by kernel_rfl
 have e2:stepO z15 (vrF z15 nm 17 0) [] 9=exB (fun v q'=>.ok ([(⟨#[97]⟩,v)],q')) (vrF z15 nm 17 0 13):=by kernel_rfl
 have e3:elF z15 (stepO z15 (vrF z15 nm 17 0)) 125 19 [] 9 = .ok ([(⟨#[97]⟩,v)],16):=by
  rw[elF,e2,e1,h]
  kernel_rfl
 have e4:vrF z15 nm 18 1 8 = .ok (objV [(⟨#[97]⟩,v)],17):=by
  have:vrF z15 nm 18 1 8=exB (fun F q'=>.ok (objV F,q')) (exB (fun st' p=>.ok (st',p+1)) (elF z15 (stepO z15 (vrF z15 nm 17 0)) 125 19 [] 9)):=by kernel_rfl
  rw[this,e3]
  rfl
 have e5:stepL (vrF z15 nm 18 1) [nulV] 8 = .ok ([nulV,objV [(⟨#[97]⟩,v)]],17):=by
  unfold stepL
  rw[e4]
  rfl
 have e6:elF z15 (stepL (vrF z15 nm 18 1)) 93 18 [nulV] 8 = .ok ([nulV,objV [(⟨#[97]⟩,v)]],17):=by
  rw[elF,e5]
  kernel_rfl
 have e7:rdF z15 nm 2=exB (fun v q'=>if blE z15 q'<z15.length then .error (blE z15 q',50) else .ok (v,blE z15 q')) (exB (fun L q'=>.ok (listV L,q')) (exB (fun st' p=>.ok (st',p+1)) (elF z15 (stepL (vrF z15 nm 18 1)) 93 18 [nulV] 8))):=by kernel_rfl
 rw[e7,e6]
 rfl
theorem rd1c(nm:Nat→Except (Nat × Int) (Vl × Nat))(v:Vl)(h:nm 1 = .ok (v,2))(h3:nm 3 = .error (3,50)):rdF z1c nm 2 = .error (3,50):=by
 have e1:vrF z1c nm 4 1 1=nm 1:=by kernel_rfl
 have e2:stepL (vrF z1c nm 4 1) [] 1 = .ok ([v],2):=by
  unfold stepL
  rw[e1,h]
  rfl
 have e5:stepL (vrF z1c nm 4 1) [v] 3=exB (fun u q'=>.ok ([v]++[u],q')) (nm 3):=by kernel_rfl
 have e6:elF z1c (stepL (vrF z1c nm 4 1)) 93 4 [v] 3 = .error (3,50):=by
  rw[elF,e5,h3]
  rfl
 have e3:elF z1c (stepL (vrF z1c nm 4 1)) 93 5 [] 1=elF z1c (stepL (vrF z1c nm 4 1)) 93 4 [v] 3:=by
  rw[elF,e2]
  kernel_rfl
 have e7:rdF z1c nm 2=exB (fun v q'=>if blE z1c q'<z1c.length then .error (blE z1c q',50) else .ok (v,blE z1c q')) (exB (fun L q'=>.ok (listV L,q')) (exB (fun st' p=>.ok (st',p+1)) (elF z1c (stepL (vrF z1c nm 4 1)) 93 5 [] 1))):=by kernel_rfl
 rw[e7,e3,e6]
 rfl
open fto (NumT RdV FlV exA exX isW inI bytZ) in
theorem numT_15{ng:Bool}{A F:List Int}{E:Option (Int × Option Bool × List Int)}(h:NumT [49,46,53] ng A F E):ng=false∧A=[49]∧F=[53]∧E=none:=by
 obtain⟨e,⟨d,ne,-⟩,hF,hE⟩:=h
 cases ng
 case true=>simp[sgL] at e
 case false =>
  simp only[sgL,Bool.false_eq_true,if_false,List.nil_append] at e
  cases A with
  | nil=>exact absurd rfl ne
  | cons x A =>
   simp only[List.cons_append,List.cons.injEq] at e
   obtain⟨rfl,e⟩:=e
   cases A with
   | cons y A =>
    simp only[List.cons_append,List.cons.injEq] at e
    have:=d y (by simp)
    omega
   | nil =>
    simp only[List.nil_append] at e
    by_cases hn:F=[]
    ·subst hn
     cases E with
     | none=>simp[frL,exA] at e
     | some q =>
      obtain⟨c,o,X⟩:=q
      have:=(hE _ rfl).1
      simp[frL,exA] at e
      simp only at this
      omega
    ·simp only[frL,if_neg hn,List.cons_append,List.cons.injEq,true_and] at e
     cases F with
     | nil=>exact absurd rfl hn
     | cons x F =>
      simp only[List.cons_append,List.cons.injEq] at e
      obtain⟨rfl,e⟩:=e
      have e':=e.symm
      rw[List.append_eq_nil_iff] at e'
      obtain⟨rfl,e'⟩:=e'
      cases E with
      | none=>exact⟨rfl,rfl,rfl,rfl⟩
      | some q=>simp[exA] at e'
open fto (NumT RdV FlV exA exX isW inI bytZ) in
theorem numT_1{ng:Bool}{A F:List Int}{E:Option (Int × Option Bool × List Int)}(h:NumT [49] ng A F E):ng=false∧A=[49]∧F=[]∧E=none:=by
 obtain⟨e,⟨d,ne,-⟩,hF,hE⟩:=h
 cases ng
 case true=>simp[sgL] at e
 case false =>
  simp only[sgL,Bool.false_eq_true,if_false,List.nil_append] at e
  cases A with
  | nil=>exact absurd rfl ne
  | cons x A =>
   simp only[List.cons_append,List.cons.injEq] at e
   obtain⟨rfl,e⟩:=e
   have e':=e.symm
   rw[List.append_eq_nil_iff] at e'
   obtain⟨rfl,e'⟩:=e'
   rw[List.append_eq_nil_iff] at e'
   obtain⟨e1,e2⟩:=e'
   have hn:F=[]:=by
    by_cases hn:F=[]
    ·exact hn
    ·simp[frL,hn] at e1
   subst hn
   cases E with
   | none=>exact⟨rfl,rfl,rfl,rfl⟩
   | some q=>simp[exA] at e2
open fto (FlV) in
theorem flV_uni{A F:List Int}{E:Option (Int × Option Bool × List Int)}{R R':Nat}(h:FlV A F E R)(h':FlV A F E R'):R=R':=by
 obtain⟨lo,hlo,rfl⟩:=h
 obtain⟨lo2,hlo2,rfl⟩:=h'
 obtain rfl:=hlo.unique hlo2
 rfl
theorem flV_15:fto.FlV [49] [53] none 4609434218613702656:=by
 refine⟨4609434218613702656,⟨?_,?_⟩,?_⟩
 ·exact Nat.le_of_ble_eq_true (by kernel_rfl)
 ·exact Nat.le_of_ble_eq_true (by kernel_rfl)
 ·kernel_rfl
theorem rdV_15{k i:Int}{f:Nat}{e:Int}(h:fto.RdV [49,46,53] k i f e):k=3∧i=0∧f=4609434218613702656∧e=0:=by
 cases h with
 | none h=>exact absurd h (by decide)
 | int ng A h hr =>
  obtain⟨-,-,h1,-⟩:=numT_15 h
  cases h1
 | flt ng A F E R h hn hR h1 =>
  obtain⟨rfl,rfl,rfl,rfl⟩:=numT_15 h
  rw[flV_uni hR flV_15]
  exact⟨rfl,rfl,rfl,rfl⟩
 | big ng A F E h hn hR =>
  obtain⟨rfl,rfl,rfl,rfl⟩:=numT_15 h
  have:=flV_uni hR flV_15
  rw[fto.infR_num] at this
  omega
theorem rdV_1{k i:Int}{f:Nat}{e:Int}(h:fto.RdV [49] k i f e):e=0:=by
 cases h with
 | none h=>exact absurd h (by decide)
 | int ng A h hr=>rfl
 | flt ng A F E R h hn hR h1=>rfl
 | big ng A F E h hn hR =>
  obtain⟨rfl,rfl,rfl,rfl⟩:=numT_1 h
  exact absurd ⟨rfl,rfl,by decide⟩ hn
theorem nm_15:nmO z15 13 = .ok (numV 3 0 4609434218613702656,16):=by
 have hp:pfx z15 13=(16,16,2):=by kernel_rfl
 have hs:strOfNums (pcZ z15 13 16)=⟨#[49,46,53]⟩:=by kernel_rfl
 obtain⟨h1,h2,h3,h4⟩:=rdV_15 (nrO_rd (s:=⟨#[49,46,53]⟩) (by decide))
 unfold nmO numR
 rw[if_pos (by decide),hp]
 simp only
 rw[hs,h1,h2,h3,h4]
 rfl
theorem nm_1c:∃ v,nmO z1c 1 = .ok (v,2):=by
 have hp:pfx z1c 1=(2,2,1):=by kernel_rfl
 have hs:strOfNums (pcZ z1c 1 2)=⟨#[49]⟩:=by kernel_rfl
 have h4:=rdV_1 (nrO_rd (s:=⟨#[49]⟩) (by decide))
 unfold nmO numR
 rw[if_pos (by decide),hp]
 simp only
 rw[hs,h4]
 exact⟨_,rfl⟩
theorem nm_3c:nmO z1c 3 = .error (3,50):=by
 have hp:pfx z1c 3=(3,3,0):=by kernel_rfl
 unfold nmO numR
 rw[if_pos (by decide),hp]
 rfl
theorem RdO_15:RdO z15 2 = .ok (obj15 (numV 3 0 4609434218613702656),18):=rd15 _ _ nm_15
theorem RdO_1c:RdO z1c 2 = .error (3,50):=by
 obtain⟨v,hv⟩:=nm_1c
 exact rd1c _ v hv nm_3c
open fto (bytZ NumT)
theorem bytZ_len(s:ByteArray):(bytZ s).length=s.size:=by unfold fto.bytZ;rw[List.length_map,Array.length_toList];rfl
end Go.Proofs.YtdogjghalplohaaGreatDoor.jin
