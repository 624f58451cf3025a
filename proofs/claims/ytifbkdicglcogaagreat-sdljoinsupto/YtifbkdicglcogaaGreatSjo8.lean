import Derived.Test.YtifbkdicglcogaaGreatSjo7
import Derived.Laws.CopyOwn
set_option linter.unusedVariables false
set_option linter.unusedSimpArgs false
namespace Go.Proofs.YtifbkdicglcogaaGreat.cu
open dt (Dt Kp RowAt Ow Grow)
theorem bb (x:Bool):x=false∨x=true:=by cases x;exact .inl rfl;exact .inr rfl
theorem zbD (L:LitR):argsS L=bnd (isPR bLp) fun q=>cond q (brk (argS L) bLp bRp 1) (bnd aliveR fun a=>ret (cond a (some []) none)):=by
 funext c
 simp only[argsS,bnd,isPR,aliveR,ret]
 rcases bb (c.isP bLp) with h | h
 ·simp only[h,Bool.false_eq_true,if_false,cond_false,bnd,aliveR,ret]
  by_cases k:c.kd=0 <;> simp[k]
 ·simp only[h,if_true,cond_true]
theorem zbm (L:LitR):∀ c:Cu,c.isP bAt=true→dirS L c=(bnd tokR fun t=>bnd (punctR bAt) fun _=>bnd nR fun n=>bnd (argsS L) fun r=>ret (r.map fun l=>dirD n.2 l t.ln t.co)) c:=by
 intro c h;simp only[dirS,bnd,tokR,punctR,nR,ret,Cu.punct,h,if_true,cond_true]
 cases (argsS L c.take.name).1 <;> rfl
theorem zi3 (L:LitR) (t:Tk):spreadS L t=bnd (butR [bOn]) fun nm=>bnd (dirs L) fun r=>ret (r.map fun l=>selD 2 em nm em [] l [] t.ln t.co):=by
 funext c
 simp only[spreadS,bnd,butR,ret]
 cases (dirs L (c.nmC (c.isN && !inW [bOn] c.tok.tx))).1 <;> rfl
theorem ziN (L:LitR) (S:LstR) (t:Tk):inlineS L S t=bnd (wordR bOn) fun q=>bnd (cond q nmR (ret em)) fun on=>bnd (dirs L) fun ds=>bnd S fun r=>ret (r.map fun ss=>selD 3 em em on [] (ds.getD []) ss t.ln t.co):=by
 funext c
 have e1:(bnd (wordR bOn) fun q=>cond q nmR (ret em)) c=(onT c,onC c):=by
  simp only[bnd,wordR,onT,onC,Cu.word]
  rcases bb (c.isW [bOn]) with h | h
  ·simp only[h,Bool.false_eq_true,if_false,cond_false,ret]
  ·simp only[h,if_true,cond_true,nmR]
 have e2:(bnd (wordR bOn) fun q=>bnd (cond q nmR (ret em)) fun on=>bnd (dirs L) fun ds=>bnd S fun r=>ret (r.map fun ss=>selD 3 em em on [] (ds.getD []) ss t.ln t.co)) c=(bnd (bnd (wordR bOn) fun q=>cond q nmR (ret em)) fun on=>bnd (dirs L) fun ds=>bnd S fun r=>ret (r.map fun ss=>selD 3 em em on [] (ds.getD []) ss t.ln t.co)) c:=rfl
 rw[e2];rw[bnd,e1];simp only[inlineS,bnd,ret]
 cases (S (dirs L (onC c)).2).1 <;> rfl
theorem zjF (L:LitR) (S:LstR) (t:Tk):fieldS L S t=bnd nmR fun n=>bnd (punctR bCol) fun q=>bnd (cond q nmR (ret n)) fun n2=>bnd (argsS L) fun a=>bnd (dirs L) fun d=>bnd (isPR bLc) fun q2=>cond q2 (bnd S fun r=>ret (r.map fun ss=>selD 1 (cond q n em) n2 em (a.getD []) (d.getD []) ss t.ln t.co)) (ret (d.map fun ds=>selD 1 (cond q n em) n2 em (a.getD []) ds [] t.ln t.co)):=by
 funext c
 simp only[fieldS,bnd,nmR,punctR,isPR,Cu.punct,fldC,fldN,fldA]
 rcases bb (c.name.isP bCol) with h | h
 ·simp only[h,Bool.false_eq_true,if_false,cond_false,ret]
  rcases bb ((dirs L (argsS L c.name).2).2.isP bLc) with g | g
  ·simp only[g,Bool.false_eq_true,if_false,cond_false,ret]
   cases (dirs L (argsS L c.name).2).1 <;> rfl
  ·simp only[g,if_true,cond_true,bnd]
   cases (S (dirs L (argsS L c.name).2).2).1 <;> rfl
 ·simp only[h,if_true,cond_true,ret]
  rcases bb ((dirs L (argsS L c.name.take.name).2).2.isP bLc) with g | g
  ·simp only[g,Bool.false_eq_true,if_false,cond_false,nmR,ret]
   cases (dirs L (argsS L c.name.take.name).2).1 <;> rfl
  ·simp only[g,if_true,cond_true,nmR,bnd]
   cases (S (dirs L (argsS L c.name.take.name).2).2).1 <;> rfl
def sprR:Cu→Bool × Cu:=fun c=>(c.isN && !inW [bOn] c.tok.tx,c)
theorem zoD:KdP sprR:=fun c h=>h
theorem zoB (L:LitR) (S:LstR):selS L S=bnd tokR fun t=>bnd (punctR bDots) fun q=>cond q (bnd sprR fun s=>cond s (spreadS L t) (inlineS L S t)) (fieldS L S t):=by
 funext c
 simp only[selS,bnd,tokR,punctR,sprR,Cu.punct]
 rcases bb (c.isP bDots) with h | h
 ·simp only[h,Bool.false_eq_true,if_false,cond_false]
 ·simp only[h,if_true,cond_true,bnd,sprR]
  rcases bb (c.take.isN && !inW [bOn] c.take.tok.tx) with g | g
  ·simp only[g,Bool.false_eq_true,if_false,cond_false]
  ·simp only[g,if_true,cond_true]
theorem zhv {L:LitR} (hG:Goes L):St (argsS L):=fun c h=>zf5 hG h
theorem zaI {L:LitR} (hG:Goes L):St (dirs L):=fun c h=>zhM hG h
theorem zaU (f:Nat):St (typF f):=fun c h=>(zcz f c h).1
theorem zhu {L:LitR} (hL:KdP L):KdP (argsS L):=by
 rw[zbD];exact (zg6 _).bnd fun q=>zer (fun c h=>zf8 (fun c h=>zjb (fun c h=>hL c h) c h) _ _ _ c h) (zf2.bnd fun a=>zcj _)
theorem znD {L:LitR} (hL:KdP L) (c:Cu) (hp:c.isP bAt=true) (h:Kd c):Kd (dirS L c).2:=by
 rw[zbm L c hp];exact (zhq.bnd fun t=>(zbY _).bnd fun _=>zra.bnd fun n=>(zhu hL).bnd fun r=>zcj _) c h
theorem zhK {L:LitR} (hL:KdP L):∀ (g:Nat) (l:List Dt),KdP (dirsF L g l)
 | 0,l=>fun c h=>h
 | g+1,l=>fun c h=>by
  simp only[dirsF]
  split
  ·rename_i hp
   have h1:=znD hL c hp h
   cases hq:(dirS L c).1 with
   | none=>exact h1
   | some d=>exact zhK hL g _ _ h1
  ·exact h
theorem zfp {L:LitR} (hL:KdP L):KdP (dirs L):=fun c h=>zhK hL _ _ c h
theorem zi4 {L:LitR} (hL:KdP L) (t:Tk):KdP (spreadS L t):=by
 rw[zi3];exact (zji _).bnd fun _=>(zfp hL).bnd fun _=>zcj _
theorem ziO {L:LitR} {S:LstR} (hL:KdP L) (hS:KdP S) (t:Tk):KdP (inlineS L S t):=by
 rw[ziN];exact (ziv _).bnd fun q=>(zer zkd (zcj _)).bnd fun _=>(zfp hL).bnd fun _=>hS.bnd fun _=>zcj _
theorem zjG {L:LitR} {S:LstR} (hL:KdP L) (hS:KdP S) (t:Tk):KdP (fieldS L S t):=by
 rw[zjF];exact zkd.bnd fun _=>(zbY _).bnd fun q=>(zer zkd (zcj _)).bnd fun _=>(zhu hL).bnd fun _=>(zfp hL).bnd fun _=>(zg6 _).bnd fun q=>zer (hS.bnd fun _=>zcj _) (zcj _)
theorem zoC {L:LitR} {S:LstR} (hL:KdP L) (hS:KdP S):KdP (selS L S):=by
 rw[zoB];exact zhq.bnd fun t=>(zbY _).bnd fun q=>zer (zoD.bnd fun s=>zer (zi4 hL t) (ziO hL hS t)) (zjG hL hS t)
theorem zlX {L:LitR} (hL:KdP L):∀ g,KdP (selsF L g)
 | 0=>fun c h=>h
 | g+1=>fun c h=>zf8 (fun c h=>zoC hL (zlX hL g) c h) _ _ _ c h
theorem zkN:∀ f,KdP (typF f)
 | 0=>fun c h=>h
 | f+1=>by
  intro c h
  show Kd (typ (unm (typF f)) c).2
  have hu:Kd (unm (typF f) c).2:=by
   unfold unm
   split
   ·have ho:=zhf h bLb
    split
    ·have h2:=zkN f _ ho
     cases hq:(typF f (c.opn bLb)).1 with
     | none=>exact h2
     | some it =>
      dsimp only
      split
      ·exact zjn h2 _
      ·exact zjn h2 _
    ·exact ho
   ·split
    ·exact zbI h
    ·exact zbI h
  unfold typ
  cases hq:(unm (typF f) c).1 with
  | none=>exact hu
  | some it =>
   dsimp only
   split
   ·exact zfN hu _
   ·exact zfN hu _
theorem zhG {D:LitR} (hD:KdP D):∀ (g:Nat) (l:List Dt),KdP (defsF D g l)
 | 0,l=>fun c h=>h
 | g+1,l=>fun c h=>by
  simp only[defsF]
  split
  ·have h1:=hD c h
   cases hq:(D c).1 with
   | none=>exact h1
   | some d=>exact zhG hD g _ _ h1
  ·exact zpA h
section
variable {m b b':Nat}
theorem zix {L L':LitR} (hG:Goes L) (hG':Goes L') (hL:Near m L L' b b'):NearA m (argsS L) (argsS L') b b':=by
 rw[zbD,zbD];have s1:=(zaH (zas hG) bLp bRp 1).st;have n1:NearA m (brk (argS L) bLp bRp 1) (brk (argS L') bLp bRp 1) b b':=(zdT (zas hG) (zas hG') (zf3 hG hL) bLp bRp 1).a.mono (Nat.le_succ _) (Nat.le_succ _);exact (zeo _).bnd (za7 _) (za7 _) (fun q=>zhY n1 (zd2.bnd zbg zbg (fun a=>zcg _) (fun a=>zam _))) (fun q=>zaK s1 (zbg.bnd fun a=>zam _))
def dirB (L:LitR):Cu→Option Dt × Cu:=bnd tokR fun t=>bnd (punctR bAt) fun _=>bnd nR fun n=>bnd (argsS L) fun r=>ret (r.map fun l=>dirD n.2 l t.ln t.co)
theorem zjw {L L':LitR} (hG:Goes L) (hG':Goes L') (hL:Near m L L' b b'):NearA m (dirB L) (dirB L') b b':=by
 have sA:=zhv hG;have sA':=zhv hG';exact zgP.bnd zcy zcy (fun t=>(zcS _).bnd (zap _) (zap _) (fun _=>zj7.bnd zdP zdP (fun n=>(zix hG hG' hL).bnd sA sA' (fun r=>zcg _) (fun r=>zam _)) (fun n=>sA.bnd fun r=>zam _)) (fun _=>zdP.bnd fun n=>sA.bnd fun r=>zam _)) (fun t=>(zap _).bnd fun _=>zdP.bnd fun n=>sA.bnd fun r=>zam _)
theorem ze0 {L L':LitR} (hG:Goes L) (hG':Goes L') (hL:Near m L L' b b'):∀ (g g':Nat) (l:List Dt) (c c':Cu),c.Ok→c'.Ok→Sim m c c'→c.ts.length≤b+c.ix→c'.ts.length≤b'+c'.ix→c.ts.length≤g+c.ix→c'.ts.length≤g'+c'.ix→(dirsF L g l c).2.ix≤m→(dirsF L' g' l c').1=(dirsF L g l c).1∧Sim m (dirsF L g l c).2 (dirsF L' g' l c').2
 | 0,g',l,c,c',h,h',hs,hb,hb',hg,hg',hm=>by have:=h.lt;omega
 | g+1,0,l,c,c',h,h',hs,hb,hb',hg,hg',hm=>by have:=h'.lt;omega
 | g+1,g'+1,l,c,c',h,h',hs,hb,hb',hg,hg',hm=>by
  have hix:c.ix≤m:=Nat.le_trans (zby hG (g+1) l c h).ix hm;simp only[dirsF] at hm ⊢;rw[hs.isP hix]
  by_cases hp:c.isP bAt=true
  ·rw[if_pos hp] at hm
   rw[if_pos hp,if_pos hp];have hp':c'.isP bAt=true:=by rw[hs.isP hix];exact hp
   have hgo:=zbd hG h hp;have hgo':=zbd hG' h' hp'
   have hEm:(dirS L c).2.ix≤m:=by
    cases hq:(dirS L c).1 with
    | none=>rw[hq] at hm;exact hm
    | some d=>rw[hq] at hm;exact Nat.le_trans (zby hG g _ _ hgo.1.ok).ix hm
   have hnr:=zjw hG hG' hL c c' h h' hs hb hb' (by unfold dirB;rw[← zbm L c hp];exact hEm)
   unfold dirB at hnr;rw[← zbm L c hp,← zbm L' c' hp'] at hnr;obtain⟨e1,e2⟩:=hnr
   cases hq:(dirS L c).1 with
   | none =>
    rw[hq] at e1;rw[e1];exact⟨rfl,e2⟩
   | some d =>
    rw[hq] at e1 hm;rw[e1];have i1:=hgo.2;have i2:=hgo'.2;exact ze0 hG hG' hL g g' (l ++ [d]) _ _ hgo.1.ok hgo'.1.ok e2 (by rw[hgo.1.ts];omega) (by rw[hgo'.1.ts];omega) (by rw[hgo.1.ts];omega) (by rw[hgo'.1.ts];omega) hm
  ·rw[if_neg hp,if_neg hp]
   exact⟨by simp only[hs.kd],hs⟩
theorem zjA {L L':LitR} (hG:Goes L) (hG':Goes L') (hL:Near m L L' b b'):NearA m (dirs L) (dirs L') b b':=fun c c' h h' hs hb hb' hm=>ze0 hG hG' hL _ _ [] c c' h h' hs hb hb' (by omega) (by omega) hm
theorem zfF {A X:Type} {E E':Cu→A × Cu} (h:NearA m E E' b b') (s:St E) (s':St E') (f:A→X):NearA m (bnd E fun r=>ret (f r)) (bnd E' fun r=>ret (f r)) b b':=h.bnd s s' (fun _=>zcg _) (fun _=>zam _)
theorem zgr {A X:Type} {E:Cu→A × Cu} (s:St E) (f:A→X):St (bnd E fun r=>ret (f r)):=s.bnd fun _=>zam _
end
def unmI (T:TypR):Cu→Option (ByteArray × ByteArray) × Cu:=bnd T fun r=>match r with | none=>ret none | some it=>bnd (clsR bRb) fun cl=>ret (cond cl (some (it.1,it.2 ++ bRb)) none)
theorem zdO (T:TypR):unm T=bnd (isPR bLb) fun q=>cond q (bnd (opnR bLb) (fun o=>cond o (unmI T) (ret none))) (bnd nR fun n=>ret (cond n.1 (some (n.2,em)) none)):=by
 funext c
 simp only[unm,bnd,isPR,opnR,nR,unmI]
 rcases bb (c.isP bLb) with h | h
 ·simp only[h,Bool.false_eq_true,if_false,cond_false,ret,bnd,nR]
  rcases bb c.isN with g | g
  ·simp only[g,Bool.false_eq_true,if_false,cond_false]
  ·simp only[g,if_true,cond_true]
 ·simp only[h,if_true,cond_true,bnd,opnR]
  rcases bb (c.opB bLb) with g | g
  ·simp only[g,Bool.false_eq_true,if_false,cond_false,ret]
  ·simp only[g,if_true,cond_true,unmI,bnd]
   cases hq:(T (c.opn bLb)).1 with
   | none=>rfl
   | some it =>
    simp only[bnd,clsR,ret]
    rcases bb ((T (c.opn bLb)).2.isP bRb) with k | k
    ·simp only[k,Bool.false_eq_true,if_false,cond_false]
    ·simp only[k,if_true,cond_true]
theorem zeK (U:TypR):typ U=bnd U fun r=>match r with | none=>ret none | some r=>bnd (punctR bBang) fun q=>ret (some (cond q (r.1,r.2 ++ bBang) r)):=by
 funext c
 simp only[typ,bnd]
 cases hq:(U c).1 with
 | none=>rfl
 | some it =>
  simp only[bnd,punctR,ret]
  rcases bb ((U c).2.isP bBang) with k | k
  ·simp only[k,Bool.false_eq_true,if_false,cond_false]
  ·simp only[k,if_true,cond_true]
section
variable {m b b':Nat}
theorem zeL {T:TypR} (h:St T):St (unmI T):=h.bnd fun r=>by
 cases r with
 | none=>exact zam _
 | some it=>exact zgr (zdt _) _
theorem zkP {T T':TypR} (h:NearA m T T' b b') (s:St T) (s':St T'):NearA m (unmI T) (unmI T') b b':=h.bnd s s' (fun r=>by
 cases r with
 | none=>exact zcg _
 | some it=>exact zfF (zjm _) (zdt _) (zdt _) _) (fun r=>by
 cases r with
 | none=>exact zam _
 | some it=>exact zgr (zdt _) _)
theorem znf {T:TypR} (h:St T):St (unm T):=by
 rw[zdO];exact (za7 _).bnd fun q=>zaK ((zdy _).bnd fun o=>zaK (zeL h) (zam _)) (zgr zdP _)
theorem zl4 {T T':TypR} (h:NearA m T T' b b') (s:St T) (s':St T'):NearA m (unm T) (unm T') (b+1) (b'+1):=by
 rw[zdO,zdO];exact (zeo _).bnd (za7 _) (za7 _) (fun q=>zhY (zlQ bLb (F:=fun o=>cond o (unmI T) (ret none)) (F':=fun o=>cond o (unmI T') (ret none)) (zkP h s s') (zeL s) (zcg _) (zam _)) (zfF zj7 zdP zdP _)) (fun q=>zaK ((zdy _).bnd fun o=>zaK (zeL s) (zam _)) (zgr zdP _))
theorem zl2 {U U':TypR} (h:NearA m U U' b b') (s:St U) (s':St U'):NearA m (typ U) (typ U') b b':=by
 rw[zeK,zeK]
 exact h.bnd s s' (fun r=>by
  cases r with
  | none=>exact zcg _
  | some r=>exact zfF (zcS _) (zap _) (zap _) _) (fun r=>by
  cases r with
  | none=>exact zam _
  | some r=>exact zgr (zap _) _)
theorem zgT:∀ (f f':Nat),NearA m (typF f) (typF f') f f'
 | 0,f'=>fun c c' h h' hs hb hb' hm=>by have:=h.lt;omega
 | f+1,0=>fun c c' h h' hs hb hb' hm=>by have:=h'.lt;omega
 | f+1,f'+1=>zl2 (zl4 (zgT f f') (zaU f) (zaU f')) (znf (zaU f)) (znf (zaU f'))
end
def bAmp:ByteArray:=⟨#[38]⟩
def bPipe:ByteArray:=⟨#[124]⟩
def bImpl:ByteArray:=⟨#[105,109,112,108,101,109,101,110,116,115]⟩
def bRep:ByteArray:=⟨#[114,101,112,101,97,116,97,98,108,101]⟩
def bExt:ByteArray:=⟨#[101,120,116,101,110,100]⟩
def bSchema:ByteArray:=⟨#[115,99,104,101,109,97]⟩
def bScalar:ByteArray:=⟨#[115,99,97,108,97,114]⟩
def bType:ByteArray:=⟨#[116,121,112,101]⟩
def bIface:ByteArray:=⟨#[105,110,116,101,114,102,97,99,101]⟩
def bUnion:ByteArray:=⟨#[117,110,105,111,110]⟩
def bEnum:ByteArray:=⟨#[101,110,117,109]⟩
def bInput:ByteArray:=⟨#[105,110,112,117,116]⟩
def bDirec:ByteArray:=⟨#[100,105,114,101,99,116,105,118,101]⟩
def bPlaces:List ByteArray:=[⟨#[81,85,69,82,89]⟩,⟨#[77,85,84,65,84,73,79,78]⟩,⟨#[83,85,66,83,67,82,73,80,84,73,79,78]⟩,⟨#[70,73,69,76,68]⟩,⟨#[70,82,65,71,77,69,78,84,95,68,69,70,73,78,73,84,73,79,78]⟩,⟨#[70,82,65,71,77,69,78,84,95,83,80,82,69,65,68]⟩,⟨#[73,78,76,73,78,69,95,70,82,65,71,77,69,78,84]⟩,⟨#[86,65,82,73,65,66,76,69,95,68,69,70,73,78,73,84,73,79,78]⟩,⟨#[83,67,72,69,77,65]⟩,⟨#[83,67,65,76,65,82]⟩,⟨#[79,66,74,69,67,84]⟩,⟨#[70,73,69,76,68,95,68,69,70,73,78,73,84,73,79,78]⟩,⟨#[65,82,71,85,77,69,78,84,95,68,69,70,73,78,73,84,73,79,78]⟩,⟨#[73,78,84,69,82,70,65,67,69]⟩,⟨#[85,78,73,79,78]⟩,⟨#[69,78,85,77]⟩,⟨#[69,78,85,77,95,86,65,76,85,69]⟩,⟨#[73,78,80,85,84,95,79,66,74,69,67,84]⟩,⟨#[73,78,80,85,84,95,70,73,69,76,68,95,68,69,70,73,78,73,84,73,79,78]⟩]
abbrev Nm:=ByteArray × Int × Int
def nm3 (t:Tk) (so:Bool):Nm:=if so then (t.tx,t.ln,t.co) else (em,0,0)
def namD (x:Nm):Dt:=.val (.string x.1) (.val (.int .i64 x.2.1) (.val (.int .i64 x.2.2) .nil))
def namR:Cu→Nm × Cu:=fun c=>(nm3 c.tok c.isN,c.name)
def butN (ws:List ByteArray):Cu→Nm × Cu:=fun c=>(nm3 c.tok (c.isN && !inW ws c.tok.tx),c.nmC (c.isN && !inW ws c.tok.tx))
def wwN (ws:List ByteArray):Cu→Nm × Cu:=fun c=>(nm3 c.tok (c.isW ws),c.nmC (c.isW ws))
abbrev Nt:=Bool × Bool × ByteArray
def Cu.isS (c:Cu):Bool:=decide (c.kd=0∧(c.tok.k=6∨c.tok.k=7))
def noteR:Cu→Nt × Cu:=fun c=>if c.isS then ((true,decide (c.tok.k=7),c.tok.va),c.take) else ((false,false,em),c)
def optR (E:Cu→Dt × Cu):Cu→Option Dt × Cu:=bnd E fun d=>bnd aliveR fun a=>ret (cond a (some d) none)
def brkT (E:Cu→Dt × Cu) (l r:ByteArray):Cu→List Dt × Cu:=bnd (brk (optR E) l r 1) fun x=>ret (x.getD [])
def optT (E:Cu→Dt × Cu) (l r:ByteArray):Cu→List Dt × Cu:=bnd (isPR l) fun q=>cond q (brkT E l r) (ret [])
def parF (E:Cu→Nm × Cu) (mark:ByteArray):Nat→List Dt→Cu→List Dt × Cu
 | 0,l=>ret l
 | g+1,l=>bnd (punctR mark) fun q=>cond q (bnd E fun d=>parF E mark g (l ++ [namD d])) (ret l)
def parT (N:Nat) (E:Cu→Nm × Cu) (mark:ByteArray):Cu→List Dt × Cu:=bnd (punctR mark) fun _=>bnd E fun d=>parF E mark N [namD d]
def tyN (t:Option (ByteArray × ByteArray)):ByteArray:=(t.map (·.1)).getD em
def tyW (t:Option (ByteArray × ByteArray)):ByteArray:=(t.map (·.2)).getD em
def ntD (n:Nt) (r:Dt):Dt:=.val (.bool n.1) (.val (.bool n.2.1) (.val (.string n.2.2) r))
def inpD (n:Nt) (m:Nm) (tn tw:ByteArray) (hd:Bool) (v:Dt) (ds:List Dt):Dt:=ntD n (.val (.string m.1) (.val (.string tn) (.val (.string tw) (.val (.bool hd) (app v (.lst 4 (Dt.of ds) (.val (.int .i64 m.2.1) (.val (.int .i64 m.2.2) .nil))))))))
def inpT (T:TypR) (L:LitR):Cu→Dt × Cu:=bnd noteR fun n=>bnd namR fun m=>bnd (wantR bCol) fun _=>bnd T fun ty=>bnd (punctR bEq) fun q=>bnd (cond q L (ret none)) fun v=>bnd (dirs L) fun d=>ret (inpD n m (tyN ty) (tyW ty) q (v.getD zeroD) (d.getD []))
def fdD (n:Nt) (m:Nm) (al:List Dt) (tn tw:ByteArray) (ds:List Dt):Dt:=ntD n (.val (.string m.1) (.lst 17 (Dt.of al) (.val (.string tn) (.val (.string tw) (.lst 4 (Dt.of ds) (.val (.int .i64 m.2.1) (.val (.int .i64 m.2.2) .nil)))))))
def fdT (T:TypR) (L:LitR):Cu→Dt × Cu:=bnd noteR fun n=>bnd namR fun m=>bnd (optT (inpT T L) bLp bRp) fun al=>bnd (wantR bCol) fun _=>bnd T fun ty=>bnd (dirs L) fun d=>ret (fdD n m al (tyN ty) (tyW ty) (d.getD []))
def choD (n:Nt) (m:Nm) (ds:List Dt):Dt:=ntD n (.val (.string m.1) (.lst 4 (Dt.of ds) (.val (.int .i64 m.2.1) (.val (.int .i64 m.2.2) .nil))))
def choT (L:LitR):Cu→Dt × Cu:=bnd noteR fun n=>bnd (butN [bTrue,bFalse,bNull]) fun m=>bnd (dirs L) fun d=>ret (choD n m (d.getD []))
def opK (x:ByteArray):Int:=if x=bMut then 2 else if x=bSub then 3 else 1
def rooD (k:Int) (ty:ByteArray) (ln co:Int):Dt:=.val (.int .i64 k) (.val (.string ty) (.val (.int .i64 ln) (.val (.int .i64 co) .nil)))
def rooT:Cu→Dt × Cu:=bnd (wwN [bQuery,bMut,bSub]) fun x=>bnd (wantR bCol) fun _=>bnd namR fun m=>ret (rooD (opK x.1) m.1 x.2.1 x.2.2)
structure Sy where
 k:Int
 ex:Bool
 n:Nt
 nm:ByteArray
 ifs:List Dt
 ds:List Dt
 fs:List Dt
 ins:List Dt
 ms:List Dt
 vs:List Dt
 rs:List Dt
 rp:Bool
 ps:List Dt
 ln:Int
 co:Int
def Sy.d (s:Sy):Dt:=.val (.int .i64 s.k) (.val (.bool s.ex) (ntD s.n (.val (.string s.nm) (.lst 3 (Dt.of s.ifs) (.lst 4 (Dt.of s.ds) (.lst 10 (Dt.of s.fs) (.lst 17 (Dt.of s.ins) (.lst 3 (Dt.of s.ms) (.lst 7 (Dt.of s.vs) (.lst 4 (Dt.of s.rs) (.val (.bool s.rp) (.lst 3 (Dt.of s.ps) (.val (.int .i64 s.ln) (.val (.int .i64 s.co) .nil))))))))))))))
def Sy.bare (s:Sy):Bool:=decide (s.ifs.length+s.ds.length+s.fs.length+s.ins.length+s.ms.length+s.vs.length+s.rs.length=0)
def nmdT (s:Sy):Cu→Sy × Cu:=bnd namR fun m=>ret { s with nm:=m.1,ln:=m.2.1,co:=m.2.2 }
def schT (L:LitR) (s:Sy):Cu→Sy × Cu:=bnd (dirs L) fun d=>bnd (isPR bLc) fun q=>bnd (cond (!s.ex || q) (brkT rooT bLc bRc) (ret [])) fun r=>ret { s with ds:=d.getD [],rs:=r }
def scaT (L:LitR) (s:Sy):Cu→Sy × Cu:=bnd (nmdT s) fun s=>bnd (dirs L) fun d=>ret { s with ds:=d.getD [] }
def objT (T:TypR) (L:LitR) (N:Nat) (s:Sy):Cu→Sy × Cu:=bnd (nmdT s) fun s=>bnd (wordR bImpl) fun q=>bnd (cond q (parT N namR bAmp) (ret [])) fun i=>bnd (dirs L) fun d=>bnd (optT (fdT T L) bLc bRc) fun f=>ret { s with ifs:=i,ds:=d.getD [],fs:=f }
def uniT (L:LitR) (N:Nat) (s:Sy):Cu→Sy × Cu:=bnd (nmdT s) fun s=>bnd (dirs L) fun d=>bnd (punctR bEq) fun q=>bnd (cond q (parT N namR bPipe) (ret [])) fun i=>ret { s with ds:=d.getD [],ms:=i }
def enuT (L:LitR) (s:Sy):Cu→Sy × Cu:=bnd (nmdT s) fun s=>bnd (dirs L) fun d=>bnd (optT (choT L) bLc bRc) fun f=>ret { s with ds:=d.getD [],vs:=f }
def inuT (T:TypR) (L:LitR) (s:Sy):Cu→Sy × Cu:=bnd (nmdT s) fun s=>bnd (dirs L) fun d=>bnd (optT (inpT T L) bLc bRc) fun f=>ret { s with ds:=d.getD [],ins:=f }
def dirT (T:TypR) (L:LitR) (N:Nat) (s:Sy):Cu→Sy × Cu:=bnd (wantR bAt) fun _=>bnd (nmdT s) fun s=>bnd (optT (inpT T L) bLp bRp) fun f=>bnd (wordR bRep) fun r=>bnd (wwR [bOn]) fun _=>bnd (parT N (wwN bPlaces) bPipe) fun p=>ret { s with ins:=f,rp:=r,ps:=p }
def Sy.at (s:Sy) (k:Int) (t:Tk):Sy:={ s with k:=k,ln:=t.ln,co:=t.co }
def kwT (q:ByteArray) (E F:Cu→Sy × Cu):Cu→Sy × Cu:=bnd (wordR q) fun b=>cond b E F
def keyT (T:TypR) (L:LitR) (N:Nat) (s:Sy):Cu→Sy × Cu:=bnd tokR fun t =>
 kwT bSchema (schT L (s.at 1 t)) (kwT bScalar (scaT L (s.at 2 t)) (kwT bType (objT T L N (s.at 3 t)) (kwT bIface (objT T L N (s.at 4 t)) (kwT bUnion (uniT L N (s.at 5 t)) (kwT bEnum (enuT L (s.at 6 t)) (kwT bInput (inuT T L (s.at 7 t)) (cond s.ex (stopR s) (kwT bDirec (dirT T L N (s.at 8 t)) (stopR s)))))))))
def Sy.of (n:Nt) (x:Bool):Sy:=⟨0,x,n,em,[],[],[],[],[],[],[],false,[],0,0⟩
def defT (T:TypR) (L:LitR) (N:Nat):Cu→Dt × Cu:=bnd noteR fun n=>bnd (cond n.1 (ret false) (wordR bExt)) fun x=>bnd (keyT T L N (Sy.of n x)) fun s=>cond (s.ex && s.bare) (stopR s.d) (ret s.d)
def sdN (N:Nat):LitR:=optR (defT (typF N) (litF true N) N)
def sdocS (c:Cu):Option (List Dt) × Cu:=defsF (sdN c.ts.length) c.ts.length [] c
structure Rg {A:Type} (m:Nat) (E E':Cu→A × Cu) (b b':Nat):Prop where
 near:NearA m E E' b b'
 st:St E
 st':St E'
 kd:KdP E
section
variable {m b b':Nat}
theorem Rg.bnd {A X:Type} {E E':Cu→A × Cu} {F F':A→Cu→X × Cu} (h:Rg m E E' b b') (k:∀ a,Rg m (F a) (F' a) b b'):Rg m (bnd E F) (bnd E' F') b b':=
 ⟨h.near.bnd h.st h.st' (fun a=>(k a).near) (fun a=>(k a).st),h.st.bnd (fun a=>(k a).st),h.st'.bnd (fun a=>(k a).st'),h.kd.bnd (fun a=>(k a).kd)⟩
theorem zbC {A:Type} (a:A):Rg m (ret a) (ret a) b b':=⟨zcg _,zam _,zam _,zcj _⟩
theorem zqk:Rg m tokR tokR b b':=⟨zgP,zcy,zcy,zhq⟩
theorem zmG (p:ByteArray):Rg m (isPR p) (isPR p) b b':=⟨zeo _,za7 _,za7 _,zg6 _⟩
theorem zkX:Rg m aliveR aliveR b b':=⟨zd2,zbg,zbg,zf2⟩
theorem zfY (p:ByteArray):Rg m (wantR p) (wantR p) b b':=⟨zi9 _,zaN _,zaN _,zl8 _⟩
theorem zfM (p:ByteArray):Rg m (punctR p) (punctR p) b b':=⟨zcS _,zap _,zap _,zbY _⟩
theorem zf1 (p:ByteArray):Rg m (wordR p) (wordR p) b b':=⟨zja _,zaw _,zaw _,ziv _⟩
theorem zrJ (ws:List ByteArray):Rg m (wwR ws) (wwR ws) b b':=⟨zmb _,zbB _,zbB _,znh _⟩
theorem zhn {A:Type} (a:A):Rg m (stopR a) (stopR a) b b':=⟨zi5 _,za9 _,za9 _,zlY _⟩
theorem zc5 {A:Type} {q:Bool} {E E' F F':Cu→A × Cu} (h:Rg m E E' b b') (k:Rg m F F' b b'):Rg m (cond q E F) (cond q E' F') b b':=by cases q;exact k;exact h
theorem ze6:Rg m namR namR b b':=⟨fun c c' hc hc' hs hb hb' hm=>by
 have hi:c.ix≤m:=Nat.le_trans (zar hc).ix hm
 exact⟨by show nm3 c'.tok c'.isN=nm3 c.tok c.isN;rw[hs.isN hi,hs.tok hi],hs.name hi⟩,fun c h=>zar h,fun c h=>zar h,fun c h=>zbI h⟩
theorem zo8 (ws:List ByteArray):Rg m (butN ws) (butN ws) b b':=⟨fun c c' hc hc' hs hb hb' hm=>by
 have hi:c.ix≤m:=Nat.le_trans (zd5 ws c hc).ix hm;refine⟨by show nm3 c'.tok _=nm3 c.tok _;rw[hs.isN hi,hs.tok hi],?_⟩
 show Sim m (c.nmC _) (c'.nmC _)
 rw[hs.isN hi,hs.tok hi]
 exact hs.nmC _,fun c h=>zd5 ws c h,fun c h=>zd5 ws c h,fun c h=>zji ws c h⟩
theorem zqy (ws:List ByteArray):Rg m (wwN ws) (wwN ws) b b':=⟨fun c c' hc hc' hs hb hb' hm=>by
 have hi:c.ix≤m:=Nat.le_trans (zbB ws c hc).ix hm;refine⟨by show nm3 c'.tok _=nm3 c.tok _;rw[hs.isW hi,hs.tok hi],?_⟩
 show Sim m (c.nmC _) (c'.nmC _)
 rw[hs.isW hi]
 exact hs.nmC _,fun c h=>zbB ws c h,fun c h=>zbB ws c h,fun c h=>znh ws c h⟩
theorem zaR:St namR:=fun c h=>zar h
theorem zcN (ws:List ByteArray):St (butN ws):=fun c h=>zd5 ws c h
theorem zcM (ws:List ByteArray):St (wwN ws):=fun c h=>zbB ws c h
theorem zgn {c:Cu} (h:c.isS=true):c.kd=0∧(c.tok.k=6∨c.tok.k=7):=of_decide_eq_true h
theorem zaE:St noteR:=fun c h=>by
 unfold noteR
 split
 ·rename_i hs
  have:=(zgn hs).2;exact zd1 h (by omega) (by omega)
 ·exact Stp.refl h
theorem zlO:KdP noteR:=fun c h=>by
 unfold noteR
 split
 ·rename_i hs
  exact zbp (zgn hs).1
 ·exact h
theorem zfI:Rg m noteR noteR b b':=⟨fun c c' hc hc' hs hb hb' hm=>by
 have hi:c.ix≤m:=Nat.le_trans (zaE c hc).ix hm;have e:c'.isS=c.isS:=by unfold Cu.isS;rw[hs.kd,hs.tok hi]
 unfold noteR;rw[e,hs.tok hi]
 split
 ·exact⟨rfl,hs.take⟩
 ·exact⟨rfl,hs⟩,zaE,zaE,zlO⟩
theorem zki {E E':Cu→Dt × Cu} (h:Rg m E E' b b'):Rg m (optR E) (optR E') b b':=h.bnd fun d=>zkX.bnd fun a=>zbC _
def Pg {A:Type} (E:Cu→A × Cu):Prop:=∀ c,c.Ok→(E c).2.kd=0→c.ix<(E c).2.ix
def Dm {A:Type} (E:Cu→A × Cu):Prop:=∀ c,c.kd ≠ 0→(E c).2=c
theorem Dm.bnd {A X:Type} {E:Cu→A × Cu} {F:A→Cu→X × Cu} (h:Dm E) (k:∀ a,Dm (F a)):Dm (bnd E F):=fun c hc=>by
 show (F (E c).1 (E c).2).2=c
 rw[h c hc];exact k _ c hc
theorem Dm.alive {A:Type} {E:Cu→A × Cu} (h:Dm E) {c:Cu} (k:(E c).2.kd=0):c.kd=0:=Classical.byContradiction fun x=>x (by rw[h c x] at k;exact k)
theorem Pg.l {A X:Type} {E:Cu→A × Cu} {F:A→Cu→X × Cu} (h:Pg E) (s:St E) (k:∀ a,Dm (F a)) (t:∀ a,St (F a)):Pg (cu.bnd E F):=fun c hc hk =>
 Nat.lt_of_lt_of_le (h c hc ((k _).alive hk)) (t (E c).1 _ (s c hc).ok).ix
theorem Pg.r {A X:Type} {E:Cu→A × Cu} {F:A→Cu→X × Cu} (s:St E) (k:∀ a,Pg (F a)):Pg (cu.bnd E F):=fun c hc hk =>
 Nat.lt_of_le_of_lt (s c hc).ix (k (E c).1 _ (s c hc).ok hk)
theorem Pg.optR {E:Cu→Dt × Cu} (h:Pg E) (s:St E):Goes (optR E):=fun c hc=>⟨s c hc,fun hs=>by
 have hk:(E c).2.kd=0:=by
  have hs':(cond (decide ((E c).2.kd=0)) (some (E c).1) none).isSome=true:=hs
  by_cases hk:(E c).2.kd=0
  ·exact hk
  ·rw[decide_eq_false hk] at hs';cases hs'
 exact h c hc hk⟩
theorem zeA {E:Cu→Dt × Cu} (b:Nat):Faults (optR E) b:=fun c hc hb hn hk=>by
 have hn':cond (decide ((E c).2.kd=0)) (some (E c).1) none=none:=hn;have hk':(E c).2.kd=0:=hk;rw[decide_eq_true hk'] at hn'
 cases hn'
theorem zaY {E:Cu→Dt × Cu} {c:Cu} (h:(E c).2.kd=0):optR E c=(some (E c).1,(E c).2):=by
 show (cond (decide ((E c).2.kd=0)) (some (E c).1) none,(E c).2)=_
 rw[decide_eq_true h];rfl
theorem zaS {E:Cu→Dt × Cu} {c:Cu} (h:(E c).2.kd ≠ 0):optR E c=(none,(E c).2):=by
 show (cond (decide ((E c).2.kd=0)) (some (E c).1) none,(E c).2)=_
 rw[decide_eq_false h];rfl
theorem za3 {A:Type} (a:A):Dm (ret a):=fun _ _=>rfl
theorem zbs {A:Type} {b:Bool} {E F:Cu→A × Cu} (h:Dm E) (k:Dm F):Dm (cond b E F):=by cases b;exact k;exact h
theorem zfC {c:Cu} (h:c.kd ≠ 0) (ws:List ByteArray):c.isW ws=false:=by unfold Cu.isW;rw[zcH h];rfl
theorem zlA {c:Cu} (h:c.kd ≠ 0):c.isS=false:=by unfold Cu.isS;simp[h]
theorem zdL:Dm namR:=fun c h=>zbX h
theorem zqj:Dm tokR:=fun _ _=>rfl
theorem zjP (p:ByteArray):Dm (isPR p):=fun _ _=>rfl
theorem zkW:Dm aliveR:=fun _ _=>rfl
theorem zcA (p:ByteArray):Dm (wantR p):=fun c h=>zgU h p
theorem zcf (p:ByteArray):Dm (punctR p):=fun c h=>by show c.punct p=c;unfold Cu.punct;rw[zaJ h];rfl
theorem zcZ (q:ByteArray):Dm (wordR q):=fun c h=>by show c.word q=c;unfold Cu.word;rw[zfC h];rfl
theorem zmq (ws:List ByteArray):Dm (butN ws):=fun c h=>by show c.nmC _=c;rw[zcH h];exact zaA _ _ h
theorem zoT (ws:List ByteArray):Dm (wwN ws):=fun c h=>by show c.nmC _=c;rw[zfC h];exact zaA _ _ h
theorem zqA (ws:List ByteArray):Dm (wwR ws):=fun c h=>by show c.nmC _=c;rw[zfC h];exact zaA _ _ h
theorem zcV {A:Type} (a:A):Dm (stopR a):=fun c h=>zaA _ _ h
theorem zdx:Dm noteR:=fun c h=>by unfold noteR;rw[zlA h];rfl
theorem zbU (L:LitR):Dm (dirs L):=fun c h=>by rw[ze1 L h]
theorem zff (f:Nat):Dm (typF f):=fun c h=>by rw[zi7 f h]
theorem zh1 (f:Nat):Dm (litF true f):=fun c h=>by
 cases f with
 | zero=>rfl
 | succ f=>show (litS (litF true f) true c).2=c;unfold litS;rw[if_pos h]
theorem zmn (E:Cu→Dt × Cu) (l r:ByteArray):Dm (brkT E l r):=fun c h=>by show (brk (optR E) l r 1 c).2=c;rw[zfi _ _ _ _ h]
theorem ze9 (E:Cu→Dt × Cu) (l r:ByteArray):Dm (optT E l r):=(zjP l).bnd fun q=>zbs (zmn E l r) (za3 _)
theorem zkl {E:Cu→Nm × Cu} (hE:Dm E) (k:ByteArray):∀ (g:Nat) (l:List Dt),Dm (parF E k g l)
 | 0,l=>za3 l
 | g+1,l=>(zcf k).bnd fun q=>zbs (hE.bnd fun d=>zkl hE k g _) (za3 l)
theorem zkq {E:Cu→Nm × Cu} (hE:Dm E) (N:Nat) (k:ByteArray):Dm (parT N E k):=(zcf k).bnd fun _=>hE.bnd fun d=>zkl hE k N _
theorem zj8:Pg namR:=fun c hc hk=>by
 have hn:c.isN=true:=by
  cases hn:c.isN with
  | true=>rfl
  | false=>exact absurd hk (ze7 hn)
 show c.ix<c.name.ix
 unfold Cu.name;rw[if_pos hn];exact Nat.lt_succ_self _
theorem zmO {c:Cu} {so:Bool} (hk:(c.nmC so).kd=0):c.ix<(c.nmC so).ix:=by
 cases so with
 | true=>exact Nat.lt_succ_self _
 | false=>exact absurd hk (zbq _ _ (by decide))
theorem znw (ws:List ByteArray):Pg (butN ws):=fun c hc hk=>zmO hk
theorem zqx (ws:List ByteArray):Pg (wwN ws):=fun c hc hk=>zmO hk
theorem zpv {L L':LitR} (hG:Goes L) (hG':Goes L') (k:KdP L) (h:Near m L L' b b'):Rg m (dirs L) (dirs L') b b':=⟨zjA hG hG' h,zaI hG,zaI hG',zfp k⟩
theorem znc (N N':Nat):Rg m (typF N) (typF N') N N':=⟨zgT N N',zaU N,zaU N',zkN N⟩
theorem zpL (N N':Nat):Rg m (litF true N) (litF true N') N N':=⟨(zet true N N').a,(zaj true N).st,(zaj true N').st,zfD true N⟩
theorem zmo {E E':Cu→Dt × Cu} (hG:Goes (optR E)) (hG':Goes (optR E')) (h:Rg m E E' b b') (l r:ByteArray):Rg m (brkT E l r) (brkT E' l r) b b':=
 Rg.bnd (E:=brk (optR E) l r 1) (E':=brk (optR E') l r 1) ⟨NearA.mono (zdT hG hG' (zki h).near l r 1) (Nat.le_succ _) (Nat.le_succ _),(zaH hG l r 1).st,(zaH hG' l r 1).st,fun c hc=>zf8 (zki h).kd l r 1 c hc⟩ fun _=>zbC _
theorem zgy {E E':Cu→Dt × Cu} (hG:Goes (optR E)) (hG':Goes (optR E')) (h:Rg m E E' b b') (l r:ByteArray):Rg m (optT E l r) (optT E' l r) b b':=(zmG l).bnd fun q=>zc5 (zmo hG hG' h l r) (zbC _)
theorem zrf {X:Type} (p:ByteArray) {F F':Bool→Cu→X × Cu} (k:Rg m (F true) (F' true) b b') (k0:Rg m (F false) (F' false) (b+1) (b'+1)):Rg m (bnd (punctR p) F) (bnd (punctR p) F') (b+1) (b'+1):=by
 have sF:∀ q,St (F q):=fun q=>by cases q;exact k0.st;exact k.st
 have sF':∀ q,St (F' q):=fun q=>by cases q;exact k0.st';exact k.st'
 refine⟨?_,(zap p).bnd sF,(zap p).bnd sF',(zbY p).bnd fun q=>by cases q;exact k0.kd;exact k.kd⟩
 intro c c' hc hc' hs hb hb' hm;have s1:=zaT hc p;have s2:=zaT hc' p;have hi:c.ix≤m:=Nat.le_trans s1.ix (Nat.le_trans (sF (c.isP p) _ s1.ok).ix hm);have e:=hs.isP hi p
 have eS:Sim m (c.punct p) (c'.punct p):=by
  unfold Cu.punct;rw[e]
  split
  ·exact hs.take
  ·exact hs
 show (F' (c'.isP p) (c'.punct p)).1=(F (c.isP p) (c.punct p)).1∧Sim m (F (c.isP p) (c.punct p)).2 (F' (c'.isP p) (c'.punct p)).2
 have hm':(F (c.isP p) (c.punct p)).2.ix≤m:=hm
 cases hq:c.isP p
 ·rw[hq] at hm'
  rw[hq] at e;rw[e];exact k0.near _ _ s1.ok s2.ok eS (by rw[s1.ts];have:=s1.ix;omega) (by rw[s2.ts];have:=s2.ix;omega) hm'
 ·rw[hq] at hm'
  rw[hq] at e;have x1:(c.punct p).ix=c.ix+1:=by unfold Cu.punct;rw[if_pos hq];rfl
  have x2:(c'.punct p).ix=c'.ix+1:=by unfold Cu.punct;rw[if_pos e];rfl
  rw[e];exact k.near _ _ s1.ok s2.ok eS (by rw[s1.ts,x1];omega) (by rw[s2.ts,x2];omega) hm'
theorem znu {E:Cu→Dt × Cu} (hG:Goes (optR E)) (l r:ByteArray):St (brkT E l r):=(zaH hG l r 1).st.bnd fun _=>zam _
theorem zbR {E:Cu→Dt × Cu} (hG:Goes (optR E)) (l r:ByteArray):St (optT E l r):=(za7 l).bnd fun q=>zaK ((zaH hG l r 1).st.bnd fun _=>zam _) (zam _)
theorem zce {E:Cu→Nm × Cu} (h:St E) (k:ByteArray):∀ (g:Nat) (l:List Dt),St (parF E k g l)
 | 0,l=>zam l
 | g+1,l=>(zap k).bnd fun q=>zaK (h.bnd fun d=>zce h k g _) (zam l)
theorem zhj {E:Cu→Nm × Cu} (h:St E) (N:Nat) (k:ByteArray):St (parT N E k):=(zap k).bnd fun _=>h.bnd fun d=>zce h k N _
theorem zkk {E:Cu→Nm × Cu} (h:KdP E) (k:ByteArray):∀ (g:Nat) (l:List Dt),KdP (parF E k g l)
 | 0,l=>zcj l
 | g+1,l=>(zbY k).bnd fun q=>zer (h.bnd fun d=>zkk h k g _) (zcj l)
theorem zm1 {E E':Cu→Nm × Cu} (k:ByteArray) (h:∀ b b',Rg m E E' b b'):∀ (g g':Nat) (l:List Dt),Rg m (parF E k g l) (parF E' k g' l) g g'
 | 0,g',l=>⟨fun c c' hc hc' hs hb hb' hm=>by have:=hc.lt;omega,zam l,zce (h 0 0).st' k g' l,zcj l⟩
 | g+1,0,l=>⟨fun c c' hc hc' hs hb hb' hm=>by have:=hc'.lt;omega,zce (h 0 0).st k (g+1) l,zam l,zkk (h 0 0).kd k (g+1) l⟩
 | g+1,g'+1,l=>zrf k (F:=fun q=>cond q (cu.bnd E fun d=>parF E k g (l ++ [namD d])) (ret l)) (F':=fun q=>cond q (cu.bnd E' fun d=>parF E' k g' (l ++ [namD d])) (ret l)) (show Rg m (cu.bnd E fun d=>parF E k g (l ++ [namD d])) (cu.bnd E' fun d=>parF E' k g' (l ++ [namD d])) g g' from (h g g').bnd fun d=>zm1 k h g g' _) (zbC l)
theorem zkr {E E':Cu→Nm × Cu} (k:ByteArray) (h:∀ b b',Rg m E E' b b') (N N':Nat):Rg m (parT N E k) (parT N' E' k) N N':=(zfM k).bnd fun _=>(h N N').bnd fun d=>zm1 k h N N' _
end
section
variable {m:Nat} (N N':Nat)
theorem zb5:Rg m (dirs (litF true N)) (dirs (litF true N')) N N':=zpv (zaj true N) (zaj true N') (zfD true N) (zet true N N')
theorem znZ:Rg m (inpT (typF N) (litF true N)) (inpT (typF N') (litF true N')) N N':=zfI.bnd fun _=>ze6.bnd fun _=>(zfY _).bnd fun _=>(znc N N').bnd fun _=>(zfM _).bnd fun q=>(zc5 (zpL N N') (zbC _)).bnd fun _=>(zb5 N N').bnd fun _=>zbC _
theorem zqZ:Dm (inpT (typF N) (litF true N)):=zdx.bnd fun _=>zdL.bnd fun _=>(zcA _).bnd fun _=>(zff N).bnd fun _=>(zcf _).bnd fun q=>(zbs (zh1 N) (za3 _)).bnd fun _=>(zbU _).bnd fun _=>za3 _
theorem zjM:Pg (inpT (typF N) (litF true N)):=Pg.r zaE fun _=>zj8.l zaR (fun _=>(zcA _).bnd fun _=>(zff N).bnd fun _=>(zcf _).bnd fun q=>(zbs (zh1 N) (za3 _)).bnd fun _=>(zbU _).bnd fun _=>za3 _) (fun _=>(zaN _).bnd fun _=>(zaU N).bnd fun _=>(zap _).bnd fun q=>(zaK (zaj true N).st (zam _)).bnd fun _=>(zaI (zaj true N)).bnd fun _=>zam _)
theorem zmE:St (inpT (typF N) (litF true N)):=zaE.bnd fun _=>zaR.bnd fun _=>(zaN _).bnd fun _=>(zaU N).bnd fun _=>(zap _).bnd fun q=>(zaK (zaj true N).st (zam _)).bnd fun _=>(zaI (zaj true N)).bnd fun _=>zam _
theorem zaF:Goes (optR (inpT (typF N) (litF true N))):=(zjM N).optR (zmE N)
theorem fd_r:Rg m (fdT (typF N) (litF true N)) (fdT (typF N') (litF true N')) N N':=zfI.bnd fun _=>ze6.bnd fun _=>(zgy (zaF N) (zaF N') (znZ N N') _ _).bnd fun _=>(zfY _).bnd fun _=>(znc N N').bnd fun _=>(zb5 N N').bnd fun _=>zbC _
theorem zpz:St (fdT (typF N) (litF true N)):=zaE.bnd fun _=>zaR.bnd fun _=>(zbR (zaF N) _ _).bnd fun _=>(zaN _).bnd fun _=>(zaU N).bnd fun _=>(zaI (zaj true N)).bnd fun _=>zam _
theorem znP:Pg (fdT (typF N) (litF true N)):=Pg.r zaE fun _=>zj8.l zaR (fun _=>(ze9 _ _ _).bnd fun _=>(zcA _).bnd fun _=>(zff N).bnd fun _=>(zbU _).bnd fun _=>za3 _) (fun _=>(zbR (zaF N) _ _).bnd fun _=>(zaN _).bnd fun _=>(zaU N).bnd fun _=>(zaI (zaj true N)).bnd fun _=>zam _)
theorem zfw:Goes (optR (fdT (typF N) (litF true N))):=(znP N).optR (zpz N)
theorem zqI:Rg m (choT (litF true N)) (choT (litF true N')) N N':=zfI.bnd fun _=>(zo8 _).bnd fun _=>(zb5 N N').bnd fun _=>zbC _
theorem zmr:St (choT (litF true N)):=zaE.bnd fun _=>(zcN _).bnd fun _=>(zaI (zaj true N)).bnd fun _=>zam _
theorem zjl:Pg (choT (litF true N)):=Pg.r zaE fun _=>(znw _).l (zcN _) (fun _=>(zbU _).bnd fun _=>za3 _) (fun _=>(zaI (zaj true N)).bnd fun _=>zam _)
theorem zc4:Goes (optR (choT (litF true N))):=(zjl N).optR (zmr N)
theorem zrl:Rg m rooT rooT N N':=(zqy _).bnd fun _=>(zfY _).bnd fun _=>ze6.bnd fun _=>zbC _
theorem zm5:St rooT:=(zcM _).bnd fun _=>(zaN _).bnd fun _=>zaR.bnd fun _=>zam _
theorem zm4:Pg rooT:=(zqx _).l (zcM _) (fun _=>(zcA _).bnd fun _=>zdL.bnd fun _=>za3 _) (fun _=>(zaN _).bnd fun _=>zaR.bnd fun _=>zam _)
theorem zdj:Goes (optR rooT):=zm4.optR zm5
theorem zci (s:Sy):St (nmdT s):=zaR.bnd fun _=>zam _
theorem zm8 (s:Sy):St (schT (litF true N) s):=(zaI (zaj true N)).bnd fun _=>(za7 _).bnd fun q=>(zaK (znu zdj _ _) (zam _)).bnd fun _=>zam _
theorem zm7 (s:Sy):St (scaT (litF true N) s):=(zci s).bnd fun _=>(zaI (zaj true N)).bnd fun _=>zam _
theorem zh6 (s:Sy):St (objT (typF N) (litF true N) N s):=(zci s).bnd fun _=>(zaw _).bnd fun q=>(zaK (zhj zaR N _) (zam _)).bnd fun _=>(zaI (zaj true N)).bnd fun _=>(zbR (zfw N) _ _).bnd fun _=>zam _
theorem zne (s:Sy):St (uniT (litF true N) N s):=(zci s).bnd fun _=>(zaI (zaj true N)).bnd fun _=>(zap _).bnd fun q=>(zaK (zhj zaR N _) (zam _)).bnd fun _=>zam _
theorem zmA (s:Sy):St (enuT (litF true N) s):=(zci s).bnd fun _=>(zaI (zaj true N)).bnd fun _=>(zbR (zc4 N) _ _).bnd fun _=>zam _
theorem zmF (s:Sy):St (inuT (typF N) (litF true N) s):=(zci s).bnd fun _=>(zaI (zaj true N)).bnd fun _=>(zbR (zaF N) _ _).bnd fun _=>zam _
theorem zjx (s:Sy):St (dirT (typF N) (litF true N) N s):=(zaN _).bnd fun _=>(zci s).bnd fun _=>(zbR (zaF N) _ _).bnd fun _=>(zaw _).bnd fun _=>(zbB _).bnd fun _=>(zhj (zcM _) N _).bnd fun _=>zam _
theorem zeU (q:ByteArray) {E F:Cu→Sy × Cu} (h:St E) (k:St F):St (kwT q E F):=(zaw q).bnd fun _=>zaK h k
theorem zgp (s:Sy):St (keyT (typF N) (litF true N) N s):=zcy.bnd fun t =>
 zeU _ (zm8 N _) (zeU _ (zm7 N _) (zeU _ (zh6 N _) (zeU _ (zh6 N _) (zeU _ (zne N _) (zeU _ (zmA N _) (zeU _ (zmF N _) (zaK (za9 _) (zeU _ (zjx N _) (za9 _)))))))))
theorem ziV (s:Sy):Rg m (nmdT s) (nmdT s) N N':=ze6.bnd fun _=>zbC _
theorem zrv (s:Sy):Rg m (schT (litF true N) s) (schT (litF true N') s) N N':=(zb5 N N').bnd fun _=>(zmG _).bnd fun q=>(zc5 (zmo zdj zdj (zrl N N') _ _) (zbC _)).bnd fun _=>zbC _
theorem zrq (s:Sy):Rg m (scaT (litF true N) s) (scaT (litF true N') s) N N':=(ziV N N' s).bnd fun _=>(zb5 N N').bnd fun _=>zbC _
theorem zp6 (s:Sy):Rg m (objT (typF N) (litF true N) N s) (objT (typF N') (litF true N') N' s) N N':=(ziV N N' s).bnd fun _=>(zf1 _).bnd fun q=>(zc5 (zkr bAmp (fun _ _=>ze6) N N') (zbC _)).bnd fun _=>(zb5 N N').bnd fun _=>(zgy (zfw N) (zfw N') (fd_r N N') _ _).bnd fun _=>zbC _
theorem zrD (s:Sy):Rg m (uniT (litF true N) N s) (uniT (litF true N') N' s) N N':=(ziV N N' s).bnd fun _=>(zb5 N N').bnd fun _=>(zfM _).bnd fun q=>(zc5 (zkr bPipe (fun _ _=>ze6) N N') (zbC _)).bnd fun _=>zbC _
theorem zqV (s:Sy):Rg m (enuT (litF true N) s) (enuT (litF true N') s) N N':=(ziV N N' s).bnd fun _=>(zb5 N N').bnd fun _=>(zgy (zc4 N) (zc4 N') (zqI N N') _ _).bnd fun _=>zbC _
theorem zq4 (s:Sy):Rg m (inuT (typF N) (litF true N) s) (inuT (typF N') (litF true N') s) N N':=(ziV N N' s).bnd fun _=>(zb5 N N').bnd fun _=>(zgy (zaF N) (zaF N') (znZ N N') _ _).bnd fun _=>zbC _
theorem zps (s:Sy):Rg m (dirT (typF N) (litF true N) N s) (dirT (typF N') (litF true N') N' s) N N':=(zfY _).bnd fun _=>(ziV N N' s).bnd fun _=>(zgy (zaF N) (zaF N') (znZ N N') _ _).bnd fun _=>(zf1 _).bnd fun _=>(zrJ _).bnd fun _=>(zkr bPipe (fun _ _=>zqy _) N N').bnd fun _=>zbC _
theorem kw_r {b b':Nat} (q:ByteArray) {E E' F F':Cu→Sy × Cu} (h:Rg m E E' b b') (k:Rg m F F' b b'):Rg m (kwT q E F) (kwT q E' F') b b':=(zf1 q).bnd fun _=>zc5 h k
theorem zq9 (s:Sy):Rg m (keyT (typF N) (litF true N) N s) (keyT (typF N') (litF true N') N' s) N N':=zqk.bnd fun t =>
 kw_r _ (zrv N N' _) (kw_r _ (zrq N N' _) (kw_r _ (zp6 N N' _) (kw_r _ (zp6 N N' _) (kw_r _ (zrD N N' _) (kw_r _ (zqV N N' _) (kw_r _ (zq4 N N' _) (zc5 (zhn _) (kw_r _ (zps N N' _) (zhn _)))))))))
theorem zqO:Rg m (defT (typF N) (litF true N) N) (defT (typF N') (litF true N') N') N N':=zfI.bnd fun n=>(zc5 (zbC _) (zf1 _)).bnd fun x=>(zq9 N N' _).bnd fun s=>zc5 (zhn _) (zbC _)
theorem zmt:St (defT (typF N) (litF true N) N):=zaE.bnd fun n=>(zaK (zam _) (zaw _)).bnd fun x=>(zgp N _).bnd fun s=>zaK (za9 _) (zam _)
theorem sd_r:Rg m (sdN N) (sdN N') N N':=zki (zqO N N')
end
theorem zbN {X:Type} {q:ByteArray} {E F:Cu→X × Cu} (s:St E) (k:Pg F):Pg (bnd (wordR q) fun b=>cond b E F):=fun c hc hk=>by
 have s0:=zaw q c hc;have hk':(cond (c.isW [q]) E F (c.word q)).2.kd=0:=hk
 show c.ix<(cond (c.isW [q]) E F (c.word q)).2.ix
 cases hq:c.isW [q] with
 | true =>
  have e:c.word q=c.take:=by unfold Cu.word;rw[if_pos hq]
  have s1:Stp (c.word q) (E (c.word q)).2:=s _ s0.ok;have:=s1.ix;rw[e] at this ⊢;exact Nat.lt_of_lt_of_le (Nat.lt_succ_self _) this
 | false =>
  have e:c.word q=c:=by unfold Cu.word;rw[if_neg (by rw[hq];decide)]
  rw[hq,e] at hk';rw[e];exact k c hc hk'
theorem zin {A:Type} (a:A):Pg (stopR a):=fun c hc hk=>absurd hk (zbq _ _ (by decide))
theorem znA {A:Type} {b:Bool} {E F:Cu→A × Cu} (h:Pg E) (k:Pg F):Pg (cond b E F):=by cases b;exact k;exact h
theorem zjT (N:Nat) (s:Sy):Pg (keyT (typF N) (litF true N) N s):=Pg.r zcy fun t =>
 zbN (zm8 N _) (zbN (zm7 N _) (zbN (zh6 N _) (zbN (zh6 N _) (zbN (zne N _) (zbN (zmA N _) (zbN (zmF N _) (znA (zin _) (zbN (zjx N _) (zin _)))))))))
theorem zju (N:Nat):Pg (defT (typF N) (litF true N) N):=Pg.r zaE fun n=>Pg.r (zaK (zam _) (zaw _)) fun x=>(zjT N _).l (zgp N _) (fun s=>zbs (zcV _) (za3 _)) (fun s=>zaK (za9 _) (zam _))
theorem zeH (N:Nat):Goes (sdN N):=(zju N).optR (zmt N)
theorem zoA:KdP sdocS:=fun c h=>zhG (sd_r (m:=0) _ 0).kd _ _ c h
theorem zim (c:Cu) (h:c.Ok):Stp c (sdocS c).2:=zco (zeH _) _ _ _ h
end Go.Proofs.YtifbkdicglcogaaGreat.cu
namespace Go.Proofs.YtifbkdicglcogaaGreat.mem
open Go.ChangeShapes Go.WideShapes Go.ChangeAt Go.RowKit
open ints (Hi uh)
theorem size32:(Tryz.prog.info? 21).map (·.size)=some 1:=by kernel_rfl
theorem zdC {α:Type} (L cs:List α) (h:L.length=cs.length):splice L 0 cs=cs:=by
 unfold splice;rw[Nat.zero_add,List.drop_eq_nil_of_le (by omega)]
 simp
theorem zcx {w:World} {base g n cap:Nat} {e:TypeId} {xs:List Value} (h:w.ownsRow base e 1 (.slice (some ⟨g,0,none⟩) n cap) n xs):∃ cur:Array Value,w.heap[g]? = some (.cells cur.toList.toArray e (0,0))∧cur.size=cap:=by
 rcases h.2 with ⟨h2,_⟩ | ⟨g',cap',cur,hv,hg,hh,hnc,hcm,hcs,hx⟩
 ·cases h2
 ·simp only[Value.slice.injEq,Option.some.injEq,Addr.mk.injEq] at hv
  obtain⟨⟨rfl,_,_⟩,_,rfl⟩:=hv;exact⟨cur,by simpa using hh,by simpa using hcs⟩
theorem zij {k:IntKind} {w:World} {a:Option Addr} {n cap:Nat} {zs:List Int} (h:Row k w a n cap zs) (hn:0<n):∃ ad,a=some ad∧∀ j u,(zs.map (Value.int k))[j]? = some u→w.cell? (ad.add j)=some u:=by
 rcases h.at_ with h0 | ⟨b,off,rfl,_,_⟩
 ·omega
 ·exact⟨_,rfl,h.cells _ rfl⟩
theorem zeB {w:World} {base base':Nat} {e:TypeId} {size:Nat} {v:Value} {n:Nat} {xs:List Value} (h:w.ownsRow base e size v n xs) (hb:base'≤base):w.ownsRow base' e size v n xs:=
 ⟨h.1,h.2.imp id (fun ⟨g',r1,r2,r3,r4,r5⟩=>⟨g',r1,r2,r3,Nat.le_trans hb r4,r5⟩)⟩
theorem zbA (a:Option Addr) (n c:Nat) (l:List Int) (w:World) (h:Row .i32 w a n c l) (hn:4 * n≤281474976710656) :
  Calls Tryz.prog 129 #[.slice a n c] w fun e w'=>e = .returned (.slice (some ⟨w.heap.size,0,none⟩) n n) ∧
   w'.ownsRow w.heap.size 21 1 (.slice (some ⟨w.heap.size,0,none⟩) n n) n (l.map (Value.int .i32))∧Below w.heap.size w w':=by
 obtain⟨i0,hi,hz0,hz1,hz2⟩:=info_parts info32;have hl:(l.map (Value.int .i32)).length=n:=by simp[h.len]
 go_enter Tryz.func129,Tryz.ntmps129
 go_wp2_with (first
  | (refine wpList_make_full _ rfl _ _ 78 rfl w.heap.size 21 i0 (.int .i32 0) 1 Tryz.underlying78 hi hz0 hz1 .i64 .i64 _ _ n rfl rfl rfl rfl (by rw[hz2];omega) (by unfold maxLen;omega) (lr _) ?_;intro w1 hown hgrow;have hg1:=belowNone hgrow;have hr1:=h.below hg1;obtain⟨cur,hcur,hcs⟩:=zcx hown)
  | (refine wpList_copy_splice rfl (.tmp 7) (.tmp 8) 78 78 rfl 21 Tryz.underlying78 size32 _ _ n n n c rfl rfl w.heap.size 0 cur.toList 21 hcur (l.map (Value.int .i32)) (by rw[hl];exact (Nat.min_self n).symm) (fun hp=>⟨rfl,zij hr1 (by rw[hl] at hp;exact hp)⟩) (by rw[hl];simp;omega) (ints_oneCell _ _) w.heap.size w hg1 (lr _) ?_;intro w2 hrow2 hb2))
 go_ret
 refine⟨rfl,?_,hb2⟩
 have:=hrow2.out;rw[zdC _ _ (by rw[hl];simpa using hcs)] at this
 exact⟨by simp[h.len],.inr ⟨w.heap.size,n,_,rfl,lr _,this,lr _,by unfold maxLen;omega,by simp[h.len],by rw[Nat.mul_one];exact List.take_of_length_le (by simp[h.len])⟩⟩
def toOf (l:List Int) (k:Nat):Nat:=if 1≤k∧prB l (k - 1)=true then k - 1 else k
def cut (l:List Int) (a b:Nat):List Int:=(l.drop a).take (b - a)
def linesTo (l:List Int):Nat→List (List Int) × Nat
 | 0=>([],0)
 | k+1=>if enB l k then ((linesTo l k).1 ++ [cut l (linesTo l k).2 (toOf l k)],k+1) else linesTo l k
def linesL (l:List Int):List (List Int):=(linesTo l l.length).1 ++ [l.drop (linesTo l l.length).2]
theorem zqQ (l:List Int) (k:Nat) (h:prB l k=true):enB l k=false:=by
 have h2:=h;simp only[prB,Bool.and_eq_true,beq_iff_eq] at h2;unfold enB;rw[h,h2.1.2];rfl
theorem zes (l:List Int) (k:Nat):(linesTo l k).2≤k∧((linesTo l k).2=0∨enB l ((linesTo l k).2 - 1)=true)∧(linesTo l k).1.length≤k:=by
 induction k with
 | zero=>simp[linesTo]
 | succ k ih =>
  simp only[linesTo]
  split
  ·rename_i h
   refine⟨lr _,.inr (by simpa using h),by simp;omega⟩
  ·exact⟨by omega,ih.2.1,by omega⟩
theorem zfy (l:List Int) (k:Nat):(linesTo l k).2≤toOf l k∧toOf l k≤k:=by
 have h:=zes l k;unfold toOf
 split
 ·rename_i hp
  refine⟨?_,by omega⟩
  rcases Nat.lt_or_ge (linesTo l k).2 k with h1 | h1
  ·omega
  ·exfalso
   have e:(linesTo l k).2=k:=by omega
   rcases h.2.1 with h2 | h2
   ·omega
   ·rw[e,zqQ l (k - 1) hp.2] at h2
    cases h2
 ·omega
def lineVal (g:Nat) (ln:List Int):Value:=.slice (some ⟨g,0,none⟩) ln.length ln.length
structure LinesAt (w:World) (base:Nat) (v:Value) (gs:List Nat) (lns:List (List Int)):Prop where
 len:gs.length=lns.length
 own:w.ownsRow base 78 1 v lns.length (List.zipWith lineVal gs lns)
 each:∀ i,i<lns.length→w.ownsRow base 21 1 (lineVal (gs.getD i 0) (lns.getD i [])) (lns.getD i []).length ((lns.getD i []).map (Value.int .i32))
 nodup:gs.Nodup
theorem ze2 {w:World} {base g:Nat} {ln:List Int} (h:w.ownsRow base 21 1 (lineVal g ln) ln.length (ln.map (Value.int .i32))):base≤g∧∃ cur,w.heap[g]? = some (.cells cur 21 (0,0)):=by
 rcases h.2 with ⟨h2,_⟩ | ⟨g',cap',cur,hv,hg,hh,_⟩
 ·cases h2
 ·simp only[lineVal,Value.slice.injEq,Option.some.injEq,Addr.mk.injEq] at hv
  obtain⟨⟨rfl,_,_⟩,_,_⟩:=hv;exact⟨hg,cur,hh⟩
theorem zhh {w:World} {base:Nat} {v:Value} {n:Nat} {xs:List Value} (h:w.ownsRow base 78 1 v n xs):∀ G,v.ownBlock=some G→∃ cur,w.heap[G]? = some (.cells cur 78 (0,0)):=by
 intro G hG
 rcases h.2 with ⟨rfl,_⟩ | ⟨g',cap',cur,rfl,hg,hh,_⟩
 ·cases hG
 ·obtain rfl:=Option.some.inj hG
  exact⟨cur,hh⟩
theorem LinesAt.snoc {w w1 w2:World} {base:Nat} {v v':Value} {gs:List Nat} {lns:List (List Int)} {o:Obj} {g:Nat} {ln:List Int}
  (h:LinesAt w base v gs lns) (hg:g=w.heap.size) (hb:Below w.heap.size w w1) (hln:w1.ownsRow base 21 1 (lineVal g ln) ln.length (ln.map (Value.int .i32)))
  (hown:w2.ownsRow base 78 1 v' (lns.length+1) (List.zipWith lineVal gs lns ++ [lineVal g ln])) (hgrow:(w1.alloc o).grownBy w2 v.ownBlock) :
  LinesAt w2 base v' (gs ++ [g]) (lns ++ [ln]):=by
 have hne:∀ (g':Nat) (ln':List Int),w1.ownsRow base 21 1 (lineVal g' ln') ln'.length (ln'.map (Value.int .i32))→w2.ownsRow base 21 1 (lineVal g' ln') ln'.length (ln'.map (Value.int .i32)):=by
  intro g' ln' h';refine (h'.alloc o).kept hgrow (.inr ?_)
  intro e;obtain⟨cur,hcur⟩:=zhh (zay h.own hb) g' (by rw[← e];rfl)
  obtain⟨_,cur',hcur'⟩:=ze2 h';rw[hcur'] at hcur;simp at hcur
 refine⟨by simp[h.len],?_,fun i hi=>?_,?_⟩
 ·rw[List.zipWith_append (by exact h.len)]
  simpa using hown
 ·by_cases hi':i<lns.length
  ·have e1:(gs ++ [g]).getD i 0=gs.getD i 0:=by simp[List.getD,List.getElem?_append_left (show i<gs.length by rw[h.len];exact hi')]
   have e2:(lns ++ [ln]).getD i []=lns.getD i []:=by simp[List.getD,List.getElem?_append_left hi']
   rw[e1,e2];exact hne _ _ (zay (h.each i hi') hb)
  ·have e:i=lns.length:=by simp at hi;omega
   have e1:(gs ++ [g]).getD i 0=g:=by rw[e,← h.len];simp[List.getD]
   have e2:(lns ++ [ln]).getD i []=ln:=by rw[e];simp[List.getD]
   rw[e1,e2];exact hne _ _ hln
 ·rw[List.nodup_append]
  refine⟨h.nodup,by simp,?_⟩
  intro x hx y hy e;simp at hy;subst hy;subst e;obtain⟨i,hi,rfl⟩:=List.mem_iff_getElem.1 hx;obtain⟨_,cur,hcur⟩:=ze2 (h.each i (by rw[← h.len];exact hi))
  have e1:gs.getD i 0=gs[i]:=by simp[List.getD,hi]
  rw[e1,hg,Array.getElem?_eq_none (lr _)] at hcur
  cases hcur
theorem infoSl:(Tryz.prog.info? 78).map (fun i=>(i.zero,i.size,i.bytes))=some (some (.slice none 0 0),1,24):=by kernel_rfl
theorem zjq (l:List Int) (a b:Nat) (h:b≤l.length):(cut l a b).length=b - a:=by simp[cut];omega
theorem Row.sub {k:IntKind} {w:World} {b off n c:Nat} {l:List Int} (hl:l.length=n) (hc:n≤c) {f t:Nat} (hft:f≤t) (ht:t≤n) (hbw:b<w.heap.size) (hcell:∀ i,i<n→w.cell? ⟨b,off+i,none⟩=some (.int k (l.getD i 0))) :
  Row k w (some ⟨b,off+f,none⟩) (t - f) (c - f) (cut l f t):=by
 refine⟨zjq l f t (by omega),by omega,(fun e=>by cases e),.inr ⟨b,off+f,rfl,hbw,fun i hi=>?_⟩⟩
 rw[Nat.add_assoc,hcell (f+i) (by omega)]
 simp[cut,List.getD,hi]
theorem zcd (v:Value) (h:v.oneCell'=true):∀ u ∈ [v],u.oneCell'=true:=by intro u hu;simp at hu;subst hu;exact h
theorem cellv (w:World) (x:Value) (t:TypeId):∀ j u,[x][j]? = some u→(w.alloc (.cells #[x] t)).cell? ((⟨w.heap.size,0,none⟩:Addr).add j)=some u:=by
 intro j u hj
 match j,hj with
 | 0,hj=>simp at hj;subst hj;simp[Addr.add]
 | (j+1),hj=>simp at hj
theorem rowZ {k:IntKind} {w:World} {a:Option Addr} {n c:Nat} (h:n=0) (hn:a=none→c=0):Row k w a n c []:=⟨by simp[h],by omega,hn,.inl h⟩
theorem linesNil (w:World) (base:Nat):LinesAt w base (.slice none 0 0) [] []:=⟨rfl,World.ownsRow_nil _ _ _ _,fun i hi=>by simp at hi,List.nodup_nil⟩
theorem zcc {l:List Int} {k:Nat} (h:enB l k=true):linesTo l (k+1)=((linesTo l k).1 ++ [cut l (linesTo l k).2 (toOf l k)],k+1):=by simp[linesTo,h]
theorem ze3 {l:List Int} {k:Nat} (h:enB l k=false):linesTo l (k+1)=linesTo l k:=by simp[linesTo,h]
theorem zhi (a:Option Addr) (n c:Nat) (l:List Int) (k:Nat) (w:World) (h:Row .i32 w a n c l) (hn:n≤9223372036854775806) (hk:k≤n) :
  Calls Tryz.prog 76 #[.slice a n c,.int .i64 ((k:Int) - 1)] w fun e w'=>e = .returned (.bool (decide (1≤k) && prB l (k - 1)))∧w'=w:=by
 cases k with
 | zero=>exact ziW a n c w
 | succ k =>
  have e:(((k+1:Nat):Int) - 1)=(k:Int):=by omega
  rw[e];have:=zfa a n c l k w h hn (by omega)
  simpa using this
set_option maxHeartbeats 2000000 in
theorem zjY (a:Option Addr) (n c:Nat) (l:List Int) (w:World) (h:Row .i32 w a n c l) (hn:n≤1099511627776) :
  Calls Tryz.prog 103 #[.slice a n c] w fun e w'=>∃ v gs,e = .returned v∧LinesAt w' w.heap.size v gs (linesL l)∧Below w.heap.size w w':=by
 obtain⟨i0,hi,hz0,hz1,hz2⟩:=info_parts infoSl
 go_enter Tryz.func103,Tryz.ntmps103
 go_wp2
 go_loopw [3,4,9] (fun v f i wr=>∃ (k:Nat) (gs:List Nat),k≤n∧i = .int .i64 k∧f = .int .i64 ((linesTo l k).2:Nat)∧LinesAt wr w.heap.size v gs (linesTo l k).1∧Below w.heap.size w wr) (fun _ _ i _=>n - (intOf i).toNat)
 case atStart=>exact⟨0,[],Nat.zero_le _,rfl,rfl,linesNil _ _,Below.refl _ _⟩
 case round =>
  obtain⟨k,gs,hk,rfl,rfl,hat,hbel⟩:=hrel;have hinv:=zes l k;have hft:=zfy l k;obtain⟨F,hF⟩:∃ F,F=(linesTo l k).2:=⟨_,rfl⟩;obtain⟨L,hL⟩:∃ L,L=(linesTo l k).1:=⟨_,rfl⟩;rw[← hF] at hinv hft ⊢;rw[← hL] at hat hinv;have HF:=Hi hF;have HL:=Hi hL;clear hF hL
  by_cases hlt:k<n
  ·have hr:=h.below hbel
   have P:=Hi (zhO a n c l k wr hr (by omega) hlt)
   have hki:(k:Int)<(n:Int):=by omega
   cases hp:enB l k
   ·rw[hp] at P
    have HP:=Hi hp;clear hp
    go_wp2_with fail
    refine (uh P).mono ?_
    rintro e w' ⟨rfl,rfl⟩;clear P
    go_wp2
    go_roundw
    case rel=>exact⟨k+1,gs,by omega,by go_num,by rw[ze3 (uh HP),← uh HF],by rw[ze3 (uh HP),← uh HL];exact hat,hbel⟩
    case measure=>simp[intOf];omega
   ·rw[hp] at P
    have HP:=Hi hp;have Q:=Hi (zhi a n c l k wr hr (by omega) (by omega))
    obtain⟨T,hT⟩:∃ T,T=toOf l k:=⟨_,rfl⟩;rw[← hT] at hft;have HT:=Hi hT
    rcases h.at_ with h0 | ⟨b,off,rfl,hbw,hcell⟩
    ·omega
    have hle:=h.le;have hsub:=Row.sub (k:=.i32) (w:=wr) (b:=b) (off:=off) (c:=c) h.len hle hft.1 (show T≤n by omega) (Nat.lt_of_lt_of_le hbw hbel.size) (fun i hi=>(hbel.cell (p:=⟨b,off+i,none⟩) hbw).trans (hcell i hi))
    have N:=Hi (zbA _ _ _ _ wr hsub (by omega))
    have hlen:=zjq l F T (by rw[h.len];omega)
    have f1:=hft.1;have f2:=hft.2;have hcF:¬ c=F:=by omega
    clear hp hT hcell hsub hr
    cases hpp:(decide (1≤k) && prB l (k - 1))
    ·have eT:T=k:=by rw[uh HT];unfold toOf;rw[if_neg (fun hh=>by rw[decide_eq_true hh.1,hh.2] at hpp;cases hpp)]
     rw[hpp] at Q;have HS:=Hi (show cut l F k=cut l F (toOf l k) from by rw[← uh HT,eT])
     rw[eT] at N hlen f1 f2;clear HT hpp eT hft
     go_wp2_with fail
     refine (uh P).mono ?_
     rintro e w' ⟨rfl,rfl⟩;clear P
     go_wp2_with fail
     refine (uh Q).mono ?_
     rintro e w' ⟨rfl,rfl⟩;clear Q
     go_wp2_with fail
     have hkF:0≤(k:Int):=by omega
     refine (uh N).mono ?_
     rintro e w2 ⟨rfl,hln,hb2⟩;have Hlen:=Hi hlen;have hown2:=zay hat.own hb2
     have hl2:w2.ownsRow w.heap.size 21 1 (lineVal w'.heap.size (cut l F k)) (cut l F k).length ((cut l F k).map (Value.int .i32)):=by
      unfold lineVal;rw[uh Hlen];exact zeB hln hbel.size
     have HL2:=Hi hl2;have HB2:=Hi hb2;have hsz2:=Nat.le_trans hbel.size hb2.size;have hLk:=hinv.2.2;have HLT:=Hi hown2.lt;clear N hln hlen hl2 hb2 hinv
     go_wp2_with (at_builtin;refine wpList_append_own _ rfl (.tmp 23) (.tmp 29) 170 rfl w.heap.size 78 i0 (.slice none 0 0) 1 24 Tryz.underlying170 hi hz0 hz1 hz2 rfl (by decide) _ _ _ rfl (hown2.alloc _) ⟨w2.heap.size,0,none⟩ 1 1 [.slice (some ⟨w'.heap.size,0,none⟩) (k - F) (k - F)] rfl rfl (cellv _ _ _) (zcd _ rfl) (by unfold maxLen;omega) (by omega) (by simp;omega) ?_;intro v' w3 hown3 hgrow3 _)
     go_roundw
     case rel =>
      have e3:Value.slice (some ⟨w'.heap.size,0,none⟩) (k - F) (k - F)=lineVal w'.heap.size (cut l F k):=by unfold lineVal;rw[uh Hlen]
      rw[e3] at hown3;have R:=hat.snoc rfl (uh HB2) (uh HL2) hown3 hgrow3;refine⟨k+1,gs ++ [w'.heap.size],by omega,by go_num,?_,?_,?_⟩
      ·rw[zcc (uh HP)];go_num
      ·rw[zcc (uh HP),← uh HL,← uh HF,← uh HS];exact R
      ·exact ((hbel.trans ((uh HB2).mono hbel.size)).alloc hsz2 _).grown hgrow3 (by simp;omega) (fun k hk=>(uh HLT k hk).1)
     case measure=>simp[intOf];omega
    ·have hk1:1≤k:=by simp at hpp;exact hpp.1
     have eT:T=k - 1:=by rw[uh HT];unfold toOf;rw[if_pos (by simpa using hpp)]
     rw[hpp] at Q;have HS:=Hi (show cut l F (k - 1)=cut l F (toOf l k) from by rw[← uh HT,eT])
     rw[eT] at N hlen f1 f2;clear HT hpp eT hft
     go_wp2_with fail
     refine (uh P).mono ?_
     rintro e w' ⟨rfl,rfl⟩;clear P
     go_wp2_with fail
     refine (uh Q).mono ?_
     rintro e w' ⟨rfl,rfl⟩;clear Q
     go_wp2_with fail
     have hkF:0≤(k:Int):=by omega
     refine (uh N).mono ?_
     rintro e w2 ⟨rfl,hln,hb2⟩;have Hlen:=Hi hlen;have hown2:=zay hat.own hb2
     have hl2:w2.ownsRow w.heap.size 21 1 (lineVal w'.heap.size (cut l F (k - 1))) (cut l F (k - 1)).length ((cut l F (k - 1)).map (Value.int .i32)):=by
      unfold lineVal;rw[uh Hlen];exact zeB hln hbel.size
     have HL2:=Hi hl2;have HB2:=Hi hb2;have hsz2:=Nat.le_trans hbel.size hb2.size;have hLk:=hinv.2.2;have HLT:=Hi hown2.lt;clear N hln hlen hl2 hb2 hinv
     go_wp2_with (at_builtin;refine wpList_append_own _ rfl (.tmp 23) (.tmp 29) 170 rfl w.heap.size 78 i0 (.slice none 0 0) 1 24 Tryz.underlying170 hi hz0 hz1 hz2 rfl (by decide) _ _ _ rfl (hown2.alloc _) ⟨w2.heap.size,0,none⟩ 1 1 [.slice (some ⟨w'.heap.size,0,none⟩) ((k - 1) - F) ((k - 1) - F)] rfl rfl (cellv _ _ _) (zcd _ rfl) (by unfold maxLen;omega) (by omega) (by simp;omega) ?_;intro v' w3 hown3 hgrow3 _)
     go_roundw
     case rel =>
      have e3:Value.slice (some ⟨w'.heap.size,0,none⟩) ((k - 1) - F) ((k - 1) - F)=lineVal w'.heap.size (cut l F (k - 1)):=by unfold lineVal;rw[uh Hlen]
      rw[e3] at hown3;have R:=hat.snoc rfl (uh HB2) (uh HL2) hown3 hgrow3;refine⟨k+1,gs ++ [w'.heap.size],by omega,by go_num,?_,?_,?_⟩
      ·rw[zcc (uh HP)];go_num
      ·rw[zcc (uh HP),← uh HL,← uh HF,← uh HS];exact R
      ·exact ((hbel.trans ((uh HB2).mono hbel.size)).alloc hsz2 _).grown hgrow3 (by simp;omega) (fun k hk=>(uh HLT k hk).1)
     case measure=>simp[intOf];omega
  ·have hkn:k=n:=by omega
   have HLL:=Hi (show linesL l=L ++ [l.drop F] from by unfold linesL;rw[h.len,← hkn,← uh HF,← uh HL])
   have Hdl:=Hi (show (l.drop F).length=n - F from by simp[h.len])
   have hFn:F≤n:=by omega
   have hnk:¬ (k:Int)<(n:Int):=by omega
   have hle:=h.le;clear hft
   by_cases hpos:0<n
   ·rcases h.at_ with h0 | ⟨b,off,rfl,hbw,hcell⟩
    ·omega
    by_cases hcF:c=F
    ·have hz0':n - F=0:=by omega
     have hnil:l.drop F=[]:=List.drop_eq_nil_of_le (by rw[h.len];omega)
     have HN:=Hi hnil;have N:=Hi (zbA (some ⟨b,off,none⟩) (n - F) 0 (l.drop F) wr (by rw[hnil];exact rowZ hz0' (fun e=>by cases e)) (by omega))
     have hfi:(F:Int)≤(n:Int):=by omega
     clear hcell hnil hz0'
     go_wp2_with fail
     refine (uh N).mono ?_
     rintro e w2 ⟨rfl,hln,hb2⟩;have hown2:=zay hat.own hb2
     have hl2:w2.ownsRow w.heap.size 21 1 (lineVal wr.heap.size (l.drop F)) (l.drop F).length ((l.drop F).map (Value.int .i32)):=by
      unfold lineVal;rw[uh Hdl];exact zeB hln hbel.size
     have HL2:=Hi hl2;have HB2:=Hi hb2;have hsz2:=Nat.le_trans hbel.size hb2.size;have hLk:=hinv.2.2;have HLT:=Hi hown2.lt;clear hln hl2 hb2 hinv
     go_wp2_with (at_builtin;refine wpList_append_own _ rfl (.tmp 34) (.tmp 39) 170 rfl w.heap.size 78 i0 (.slice none 0 0) 1 24 Tryz.underlying170 hi hz0 hz1 hz2 rfl (by decide) _ _ _ rfl (hown2.alloc _) ⟨w2.heap.size,0,none⟩ 1 1 [.slice (some ⟨wr.heap.size,0,none⟩) (n - F) (n - F)] rfl rfl (cellv _ _ _) (zcd _ rfl) (by unfold maxLen;omega) (by omega) (by simp;omega) ?_;intro v' w3 hown3 hgrow3 _)
     go_ret
     have e3:Value.slice (some ⟨wr.heap.size,0,none⟩) (n - F) (n - F)=lineVal wr.heap.size (l.drop F):=by unfold lineVal;rw[uh Hdl]
     rw[e3] at hown3;have R:=hat.snoc rfl (uh HB2) (uh HL2) hown3 hgrow3;rw[uh HLL];exact⟨v',_,rfl,R,((hbel.trans ((uh HB2).mono hbel.size)).alloc hsz2 _).grown hgrow3 (by simp;omega) (fun k hk=>(uh HLT k hk).1)⟩
    ·have ecut:cut l F n=l.drop F:=by unfold cut;rw[List.take_of_length_le (by simp[h.len])]
     have hsub:=Row.sub (k:=.i32) (w:=wr) (b:=b) (off:=off) (c:=c) h.len hle hFn (lr n) (Nat.lt_of_lt_of_le hbw hbel.size) (fun i hi=>(hbel.cell (p:=⟨b,off+i,none⟩) hbw).trans (hcell i hi))
     rw[ecut] at hsub;have N:=Hi (zbA _ _ _ _ wr hsub (by omega))
     have hfi:(F:Int)≤(n:Int):=by omega
     clear hcell hsub ecut
     go_wp2_with fail
     refine (uh N).mono ?_
     rintro e w2 ⟨rfl,hln,hb2⟩;have hown2:=zay hat.own hb2
     have hl2:w2.ownsRow w.heap.size 21 1 (lineVal wr.heap.size (l.drop F)) (l.drop F).length ((l.drop F).map (Value.int .i32)):=by
      unfold lineVal;rw[uh Hdl];exact zeB hln hbel.size
     have HL2:=Hi hl2;have HB2:=Hi hb2;have hsz2:=Nat.le_trans hbel.size hb2.size;have hLk:=hinv.2.2;have HLT:=Hi hown2.lt;clear hln hl2 hb2 hinv
     go_wp2_with (at_builtin;refine wpList_append_own _ rfl (.tmp 34) (.tmp 39) 170 rfl w.heap.size 78 i0 (.slice none 0 0) 1 24 Tryz.underlying170 hi hz0 hz1 hz2 rfl (by decide) _ _ _ rfl (hown2.alloc _) ⟨w2.heap.size,0,none⟩ 1 1 [.slice (some ⟨wr.heap.size,0,none⟩) (n - F) (n - F)] rfl rfl (cellv _ _ _) (zcd _ rfl) (by unfold maxLen;omega) (by omega) (by simp;omega) ?_;intro v' w3 hown3 hgrow3 _)
     go_ret
     have e3:Value.slice (some ⟨wr.heap.size,0,none⟩) (n - F) (n - F)=lineVal wr.heap.size (l.drop F):=by unfold lineVal;rw[uh Hdl]
     rw[e3] at hown3;have R:=hat.snoc rfl (uh HB2) (uh HL2) hown3 hgrow3;rw[uh HLL];exact⟨v',_,rfl,R,((hbel.trans ((uh HB2).mono hbel.size)).alloc hsz2 _).grown hgrow3 (by simp;omega) (fun k hk=>(uh HLT k hk).1)⟩
   ·have hn0:n=0:=by omega
    have hF0:F=0:=by omega
    have hl0:l=[]:=List.eq_nil_of_length_eq_zero (by rw[h.len];exact hn0)
    have hnil':=h.nil;subst hn0 hF0;have Hdl0:=Hi (show (l.drop 0).length=0 from by rw[hl0];rfl)
    have Hl0:=Hi hl0;clear hl0 Hdl;have Hdl:=Hdl0;clear Hdl0
    cases a with
    | none =>
     have hc0:c=0:=hnil' rfl;subst hc0;have N:=Hi (zbA none 0 0 (l.drop 0) wr (by rw[uh Hl0];exact rowZ rfl (fun _=>rfl)) (by omega))
     clear hnil' h
     go_wp2_with fail
     refine (uh N).mono ?_
     rintro e w2 ⟨rfl,hln,hb2⟩;have hown2:=zay hat.own hb2
     have hl2:w2.ownsRow w.heap.size 21 1 (lineVal wr.heap.size (l.drop 0)) (l.drop 0).length ((l.drop 0).map (Value.int .i32)):=by
      unfold lineVal;rw[uh Hdl];exact zeB hln hbel.size
     have HL2:=Hi hl2;have HB2:=Hi hb2;have hsz2:=Nat.le_trans hbel.size hb2.size;have hLk:=hinv.2.2;have HLT:=Hi hown2.lt;clear hln hl2 hb2 hinv
     go_wp2_with (at_builtin;refine wpList_append_own _ rfl (.tmp 34) (.tmp 39) 170 rfl w.heap.size 78 i0 (.slice none 0 0) 1 24 Tryz.underlying170 hi hz0 hz1 hz2 rfl (by decide) _ _ _ rfl (hown2.alloc _) ⟨w2.heap.size,0,none⟩ 1 1 [.slice (some ⟨wr.heap.size,0,none⟩) 0 0] rfl rfl (cellv _ _ _) (zcd _ rfl) (by unfold maxLen;omega) (by omega) (by simp;omega) ?_;intro v' w3 hown3 hgrow3 _)
     go_ret
     have e3:Value.slice (some ⟨wr.heap.size,0,none⟩) 0 0=lineVal wr.heap.size (l.drop 0):=by unfold lineVal;rw[uh Hdl]
     rw[e3] at hown3;have R:=hat.snoc rfl (uh HB2) (uh HL2) hown3 hgrow3;rw[uh HLL];exact⟨v',_,rfl,R,((hbel.trans ((uh HB2).mono hbel.size)).alloc hsz2 _).grown hgrow3 (by simp;omega) (fun k hk=>(uh HLT k hk).1)⟩
    | some ad =>
     have N:=Hi (zbA (some ad) 0 c (l.drop 0) wr (by rw[uh Hl0];exact rowZ rfl (fun e=>by cases e)) (by omega))
     by_cases hc0:c=0
     ·subst hc0
      clear hnil' h
      go_wp2_with fail
      refine (uh N).mono ?_
      rintro e w2 ⟨rfl,hln,hb2⟩;have hown2:=zay hat.own hb2
      have hl2:w2.ownsRow w.heap.size 21 1 (lineVal wr.heap.size (l.drop 0)) (l.drop 0).length ((l.drop 0).map (Value.int .i32)):=by
       unfold lineVal;rw[uh Hdl];exact zeB hln hbel.size
      have HL2:=Hi hl2;have HB2:=Hi hb2;have hsz2:=Nat.le_trans hbel.size hb2.size;have hLk:=hinv.2.2;have HLT:=Hi hown2.lt;clear hln hl2 hb2 hinv
      go_wp2_with (at_builtin;refine wpList_append_own _ rfl (.tmp 34) (.tmp 39) 170 rfl w.heap.size 78 i0 (.slice none 0 0) 1 24 Tryz.underlying170 hi hz0 hz1 hz2 rfl (by decide) _ _ _ rfl (hown2.alloc _) ⟨w2.heap.size,0,none⟩ 1 1 [.slice (some ⟨wr.heap.size,0,none⟩) 0 0] rfl rfl (cellv _ _ _) (zcd _ rfl) (by unfold maxLen;omega) (by omega) (by simp;omega) ?_;intro v' w3 hown3 hgrow3 _)
      go_ret
      have e3:Value.slice (some ⟨wr.heap.size,0,none⟩) 0 0=lineVal wr.heap.size (l.drop 0):=by unfold lineVal;rw[uh Hdl]
      rw[e3] at hown3;have R:=hat.snoc rfl (uh HB2) (uh HL2) hown3 hgrow3;rw[uh HLL];exact⟨v',_,rfl,R,((hbel.trans ((uh HB2).mono hbel.size)).alloc hsz2 _).grown hgrow3 (by simp;omega) (fun k hk=>(uh HLT k hk).1)⟩
     ·clear hnil' h
      go_wp2_with fail
      refine (uh N).mono ?_
      rintro e w2 ⟨rfl,hln,hb2⟩;have hown2:=zay hat.own hb2
      have hl2:w2.ownsRow w.heap.size 21 1 (lineVal wr.heap.size (l.drop 0)) (l.drop 0).length ((l.drop 0).map (Value.int .i32)):=by
       unfold lineVal;rw[uh Hdl];exact zeB hln hbel.size
      have HL2:=Hi hl2;have HB2:=Hi hb2;have hsz2:=Nat.le_trans hbel.size hb2.size;have hLk:=hinv.2.2;have HLT:=Hi hown2.lt;clear hln hl2 hb2 hinv
      go_wp2_with (at_builtin;refine wpList_append_own _ rfl (.tmp 34) (.tmp 39) 170 rfl w.heap.size 78 i0 (.slice none 0 0) 1 24 Tryz.underlying170 hi hz0 hz1 hz2 rfl (by decide) _ _ _ rfl (hown2.alloc _) ⟨w2.heap.size,0,none⟩ 1 1 [.slice (some ⟨wr.heap.size,0,none⟩) 0 0] rfl rfl (cellv _ _ _) (zcd _ rfl) (by unfold maxLen;omega) (by omega) (by simp;omega) ?_;intro v' w3 hown3 hgrow3 _)
      go_ret
      have e3:Value.slice (some ⟨wr.heap.size,0,none⟩) 0 0=lineVal wr.heap.size (l.drop 0):=by unfold lineVal;rw[uh Hdl]
      rw[e3] at hown3;have R:=hat.snoc rfl (uh HB2) (uh HL2) hown3 hgrow3;rw[uh HLL];exact⟨v',_,rfl,R,((hbel.trans ((uh HB2).mono hbel.size)).alloc hsz2 _).grown hgrow3 (by simp;omega) (fun k hk=>(uh HLT k hk).1)⟩
end Go.Proofs.YtifbkdicglcogaaGreat.mem
namespace Go.Proofs.YtifbkdicglcogaaGreat.sv
def whB (c:Int):Bool:=c == 9 || c == 32
def soB (c:Int):Bool:=c == 9 || c == 10 || c == 13 || (decide (32≤c) && decide (c≤55295)) || (decide (57344≤c) && decide (c≤65535))
def ind (l:List Int):Nat:=(l.takeWhile whB).length
def blk (l:List Int):Bool:=l.all whB
def pre (c:Int):List (List Int)→List (List Int)
 | []=>[[c]]
 | x :: xs=>(c :: x) :: xs
def lns:List Int→List (List Int)
 | []=>[[]]
 | c :: r=>if c=10 then [] :: lns r else if c=13 then (if r.head? = some 10 then lns r else [] :: lns r) else pre c (lns r)
def jn:List (List Int)→List Int
 | []=>[]
 | [x]=>x
 | x :: y :: r=>x ++ 10 :: jn (y :: r)
def flat (x:List Int):Prop:=∀ c ∈ x,c ≠ 10∧c ≠ 13
theorem zda {c:Int} {x:List Int} (h:flat (c :: x)):flat x:=fun d hd=>h d (List.mem_cons_of_mem _ hd)
theorem zp8 (c:Int) (L:List (List Int)):pre c L ≠ []:=by cases L <;> simp[pre]
theorem zj4:∀ l,lns l ≠ []
 | []=>by simp[lns]
 | c :: r=>by
  rw[lns]
  split
  ·simp
  ·split
   ·split
    ·exact zj4 r
    ·simp
   ·exact zp8 _ _
theorem zj3:∀ (x r:List Int),flat x→lns (x ++ 10 :: r)=x :: lns r
 | [],r,_=>by simp[lns]
 | c :: x,r,h=>by
  have hc:=h c (by simp)
  rw[List.cons_append,lns,if_neg hc.1,if_neg hc.2,zj3 x r (zda h)];rfl
theorem zj5:∀ (x:List Int),flat x→lns x=[x]
 | [],_=>rfl
 | c :: x,h=>by
  have hc:=h c (by simp)
  rw[lns,if_neg hc.1,if_neg hc.2,zj5 x (zda h)];rfl
def esc4 (l:List Int):Bool:=l.take 4 == [92,34,34,34]
def tri (l:List Int):Bool:=l.take 3 == [34,34,34]
def opn (l:List Int):List Int:=
 match l with
 | []=>[]
 | c :: r=>if esc4 (c :: r) then 34 :: 34 :: 34 :: opn (r.drop 3) else c :: opn r
termination_by l.length
decreasing_by all_goals (simp;try omega)
def grd (l:List Int):List Int:=
 match l with
 | []=>[]
 | c :: r=>if tri (c :: r) then 92 :: 34 :: 34 :: 34 :: grd (r.drop 2) else c :: grd r
termination_by l.length
decreasing_by all_goals (simp;try omega)
theorem zbQ {c:Int} {r:List Int} (h:esc4 (c :: r)=true):opn (c :: r)=34 :: 34 :: 34 :: opn (r.drop 3):=by rw[opn,if_pos h]
open mem
theorem zmJ:∀ (x r:List Int),flat x→r.head? ≠ some 10→lns (x ++ 13 :: r)=x :: lns r
 | [],r,_,h=>by simp[lns,h]
 | c :: x,r,h,hr=>by
  have hc:=h c (by simp)
  rw[List.cons_append,lns,if_neg hc.1,if_neg hc.2,zmJ x r (zda h) hr];rfl
theorem zh2:∀ (x r:List Int),flat x→lns (x ++ 13 :: 10 :: r)=x :: lns r
 | [],r,_=>by simp[lns]
 | c :: x,r,h=>by
  have hc:=h c (by simp)
  rw[List.cons_append,lns,if_neg hc.1,if_neg hc.2,zh2 x r (zda h)];rfl
theorem noEnd (l:List Int) (k:Nat):∀ j,(linesTo l k).2≤j→j<k→enB l j=false:=by
 induction k with
 | zero=>intro j _ h;omega
 | succ k ih =>
  intro j h1 h2;rw[linesTo] at h1
  cases he:enB l k
  ·rw[he] at h1
   simp only[Bool.false_eq_true,if_false] at h1
   by_cases e:j=k
   ·rw[e];exact he
   ·exact ih j h1 (by omega)
  ·rw[he] at h1
   simp only[if_true] at h1;omega
theorem zn6 {l:List Int} {a b:Nat} {c:Int} (h:c ∈ cut l a b):∃ j,a≤j∧j<b∧j<l.length∧l.getD j 0=c:=by
 obtain⟨i,hi,e⟩:=List.mem_iff_getElem.1 h;have hi2:i<b - a∧a+i<l.length:=by simp[cut] at hi;omega
 refine⟨a+i,by omega,by omega,hi2.2,?_⟩
 rw[← e];simp[cut,List.getD,hi2.2]
theorem zhE (l:List Int) (k:Nat) (hk:k≤l.length):flat (cut l (linesTo l k).2 (toOf l k)):=by
 intro c hc;obtain⟨j,h1,h2,h3,h4⟩:=zn6 hc;have hft:=zfy l k;have hn:=noEnd l k j h1 (by omega)
 unfold enB at hn;rw[h4] at hn;simp only[Bool.or_eq_false_iff,Bool.and_eq_false_iff,beq_eq_false_iff_ne,Bool.not_eq_false'] at hn;refine⟨hn.1,?_⟩
 rcases hn.2 with h5 | h5
 ·exact h5
 ·exfalso
  have h6:=h5;simp only[prB,Bool.and_eq_true,decide_eq_true_eq,beq_iff_eq] at h6
  by_cases e:j+1=k
  ·have:toOf l k=k - 1:=by
    unfold toOf;have:k - 1=j:=by omega
    rw[this,if_pos ⟨by omega,h5⟩]
   omega
  ·have hn2:=noEnd l k (j+1) (by omega) (by omega)
   unfold enB at hn2;rw[h6.2] at hn2;simp at hn2
theorem zln (l:List Int) (a b:Nat) (h:a≤b):l.drop a=cut l a b ++ l.drop b:=by
 unfold cut
 conv=>lhs;rw[← List.take_append_drop (b - a) (l.drop a)]
 rw[List.drop_drop]
 congr 2
 omega
theorem zfr {l:List Int} {k:Nat} (h:k<l.length):l.drop k=l.getD k 0 :: l.drop (k+1):=by
 rw[List.drop_eq_getElem_cons h];simp[List.getD,h]
theorem zmK (l:List Int):∀ k,k≤l.length→lns l=(linesTo l k).1 ++ lns (l.drop (linesTo l k).2)
 | 0,_=>by simp[linesTo]
 | k+1,h=>by
  have ih:=zmK l k (by omega)
  have hcf:=zhE l k (by omega)
  have hft:=zfy l k;rw[linesTo]
  cases he:enB l k
  ·simpa using ih
  ·simp only[if_true]
   rw[ih,List.append_assoc,List.singleton_append]
   congr 1
   rw[zln l _ _ hft.1]
   by_cases hp:1≤k∧prB l (k - 1)=true
   ·have ht:toOf l k=k - 1:=by unfold toOf;rw[if_pos hp]
    have hp2:=hp.2;simp only[prB,Bool.and_eq_true,decide_eq_true_eq,beq_iff_eq] at hp2;have hk1:k - 1+1=k:=by omega
    rw[hk1] at hp2;have e1:l.drop (toOf l k)=13 :: 10 :: l.drop (k+1):=by rw[ht,zfr (by omega),hk1,zfr (by omega),hp2.1.2,hp2.2]
    rw[e1,zh2 _ _ hcf]
   ·have ht:toOf l k=k:=by unfold toOf;rw[if_neg hp]
    have e1:l.drop (toOf l k)=l.getD k 0 :: l.drop (k+1):=by rw[ht,zfr (by omega)]
    rw[e1];have he2:=he;unfold enB at he2;simp only[Bool.or_eq_true,Bool.and_eq_true,beq_iff_eq,Bool.not_eq_true'] at he2
    rcases he2 with h5 | ⟨h5,h6⟩
    ·rw[h5,zj3 _ _ hcf]
    ·rw[h5,zmJ _ _ hcf]
     intro h7;rw[← Bool.not_eq_true] at h6
     apply h6
     have hlt:k+1<l.length:=by
      by_cases h8:k+1<l.length
      ·exact h8
      ·rw[List.drop_eq_nil_of_le (by omega)] at h7;cases h7
     simp only[prB,Bool.and_eq_true,decide_eq_true_eq,beq_iff_eq];refine⟨⟨hlt,h5⟩,?_⟩
     rw[zfr hlt] at h7
     simpa using h7
theorem zjX (l:List Int):linesL l=lns l:=by
 rw[zmK l l.length (lr _)];unfold linesL
 congr 1
 have h:=zhE l l.length (lr _);have hft:=zfy l l.length
 have ht:toOf l l.length=l.length:=by
  unfold toOf;rw[if_neg];rintro ⟨h1,h2⟩;simp only[prB,Bool.and_eq_true,decide_eq_true_eq] at h2;omega
 rw[ht] at h
 have e:cut l (linesTo l l.length).2 l.length=l.drop (linesTo l l.length).2:=by
  unfold cut;exact List.take_of_length_le (by simp)
 rw[e] at h;rw[zj5 _ h]
def lst:List (List Int)→Option Nat
 | []=>none
 | x :: L=>if blk x then lst L else some (match lst L with | none=>ind x | some m=>min (ind x) m)
def cutL (n:Nat):List (List Int)→List (List Int)
 | []=>[]
 | x :: L=>x :: L.map (List.drop n)
def trm (L:List (List Int)):List (List Int):=((L.dropWhile blk).reverse.dropWhile blk).reverse
def pos (L:List (List Int)):Bool:=match L with
 | []=>false
 | x :: r=>!blk x && !blk ((x :: r).getLastD []) && ((x :: r).any (fun l=>ind l == 0 && !blk l) || r.isEmpty)
def ins (L:List (List Int)):List Int:=
 if (L.length == 1 && whB ((L.headD []).headD 0))=true then L.flatMap (fun x=>grd x ++ [10]) else 10 :: L.flatMap (fun x=>grd x ++ [10])
theorem zjJ (l:List Int):ind l≤l.length:=by
 unfold ind;exact (List.takeWhile_prefix whB).length_le
theorem zgX (l:List Int):blk l=(ind l == l.length):=by
 induction l with
 | nil=>rfl
 | cons c r ih =>
  unfold blk ind at ih ⊢;rw[List.all_cons,List.takeWhile_cons]
  cases h:whB c
  ·simp
  ·simp[ih]
theorem ind0 {c:Int} {r:List Int} (h:whB c=false):ind (c :: r)=0:=by unfold ind;rw[List.takeWhile_cons,h];rfl
theorem zlI {L:List (List Int)} (h:lst L=none):∀ x ∈ L,blk x=true:=by
 induction L with
 | nil=>intro x hx;cases hx
 | cons y L ih =>
  rw[lst] at h
  cases hb:blk y
  ·rw[hb] at h;simp at h
  ·rw[hb,if_pos rfl] at h
   intro x hx
   rcases List.mem_cons.1 hx with rfl | h2
   ·exact hb
   ·exact ih h x h2
theorem zlK {L:List (List Int)} {m:Nat} (h:lst L=some m):(∃ x ∈ L,blk x=false∧ind x=m)∧∀ x ∈ L,blk x=false→m≤ind x:=by
 induction L generalizing m with
 | nil=>cases h
 | cons y L ih =>
  rw[lst] at h
  cases hb:blk y
  ·rw[hb] at h
   simp only[Bool.false_eq_true,if_false,Option.some.injEq] at h
   cases hL:lst L with
   | none =>
    rw[hL] at h;simp only at h;refine⟨⟨y,by simp,hb,h⟩,fun x hx hx2=>?_⟩
    rcases List.mem_cons.1 hx with rfl | h2
    ·omega
    ·rw[zlI hL x h2] at hx2;cases hx2
   | some k =>
    rw[hL] at h;simp only at h;obtain⟨⟨z,hz,hz2,hz3⟩,h4⟩:=ih hL;refine⟨?_,fun x hx hx2=>?_⟩
    ·by_cases hle:ind y≤k
     ·exact⟨y,by simp,hb,by omega⟩
     ·exact⟨z,by simp[hz],hz2,by omega⟩
    ·rcases List.mem_cons.1 hx with rfl | h2
     ·omega
     ·have:=h4 x h2 hx2;omega
  ·rw[hb,if_pos rfl] at h
   obtain⟨⟨z,hz,hz2,hz3⟩,h4⟩:=ih h;refine⟨⟨z,by simp[hz],hz2,hz3⟩,fun x hx hx2=>?_⟩
   rcases List.mem_cons.1 hx with rfl | h2
   ·rw[hb] at hx2;cases hx2
   ·exact h4 x h2 hx2
theorem zb6 {α:Type} {p:α→Bool}:∀ {l:List α},(∀ x ∈ l,p x=true)→l.dropWhile p=[]
 | [],_=>rfl
 | x :: l,h=>by rw[List.dropWhile_cons,h x (by simp),if_pos rfl];exact zb6 (fun y hy=>h y (by simp[hy]))
theorem zb7 {α:Type} {p:α→Bool}:∀ {a b:List α},(∀ x ∈ a,p x=true)→(a ++ b).dropWhile p=b.dropWhile p
 | [],b,_=>rfl
 | x :: a,b,h=>by rw[List.cons_append,List.dropWhile_cons,h x (by simp),if_pos rfl];exact zb7 (fun y hy=>h y (by simp[hy]))
theorem zdI {α:Type} {p:α→Bool} {x:α} {l:List α} (h:p x=false):(x :: l).dropWhile p=x :: l:=by rw[List.dropWhile_cons,h];rfl
theorem zbP {α:Type} {p:α→Bool}:∀ {l:List α} {x:α} {r:List α},l.dropWhile p=x :: r→p x=false
 | [],x,r,h=>by cases h
 | y :: l,x,r,h=>by
  rw[List.dropWhile_cons] at h
  cases hy:p y
  ·rw[hy] at h
   simp only[Bool.false_eq_true,if_false,List.cons.injEq] at h;rw[← h.1];exact hy
  ·rw[hy,if_pos rfl] at h
   exact zbP h
theorem zb8 {α:Type} {p:α→Bool} {x:α}:∀ {l:List α},x ∈ l→p x=false→x ∈ l.dropWhile p
 | [],h,_=>by cases h
 | y :: l,h,hp=>by
  rw[List.dropWhile_cons]
  cases hy:p y
  ·simpa using h
  ·rw[if_pos rfl]
   rcases List.mem_cons.1 h with rfl | h2
   ·rw[hy] at hp;cases hp
   ·exact zb8 h2 hp
theorem zoM {L:List (List Int)} {x:List Int} (h:x ∈ L) (hb:blk x=false):x ∈ trm L:=by
 unfold trm;rw[List.mem_reverse];exact zb8 (by rw[List.mem_reverse];exact zb8 h hb) hb
theorem zoN {A B M:List (List Int)} (hA:∀ x ∈ A,blk x=true) (hB:∀ x ∈ B,blk x=true) (h1:∃ x r,M=x :: r∧blk x=false) (h2:∃ x r,M=r ++ [x]∧blk x=false):trm (A ++ M ++ B)=M:=by
 unfold trm;rw[List.append_assoc,zb7 hA];obtain⟨x,r,e,hx⟩:=h1;have e1:(M ++ B).dropWhile blk=M ++ B:=by rw[e,List.cons_append,zdI hx]
 rw[e1,List.reverse_append,zb7 (fun y hy=>hB y (by simpa using hy))]
 obtain⟨y,s,e2,hy⟩:=h2;rw[e2,List.reverse_append,List.reverse_singleton,List.singleton_append,zdI hy];simp
theorem zl1 (L:List (List Int)):(trm L=[]∧∀ x ∈ L,blk x=true)∨∃ A B,L=A ++ trm L ++ B∧(∀ x ∈ A,blk x=true)∧(∀ x ∈ B,blk x=true)∧(∃ x r,trm L=x :: r∧blk x=false)∧(∃ x r,trm L=r ++ [x]∧blk x=false):=by
 by_cases h:∃ x ∈ L,blk x=false
 ·right
  have hA:∀ (K:List (List Int)),∃ A,K=A ++ K.dropWhile blk∧∀ x ∈ A,blk x=true:=fun K=>⟨K.takeWhile blk,(List.takeWhile_append_dropWhile).symm,fun x hx=>by
   have:=List.all_takeWhile (l:=K) (p:=blk);rw[List.all_eq_true] at this
   exact this x hx⟩
  obtain⟨A,hA1,hA2⟩:=hA L;obtain⟨B,hB1,hB2⟩:=hA (L.dropWhile blk).reverse
  have hm:L.dropWhile blk=trm L ++ B.reverse:=by
   have:=congrArg List.reverse hB1;rw[List.reverse_reverse,List.reverse_append] at this;exact this
  obtain⟨x,hx,hx2⟩:=h;have hx3:=zoM hx hx2;refine⟨A,B.reverse,?_,hA2,fun y hy=>hB2 y (by simpa using hy),?_,?_⟩
  ·rw[List.append_assoc,← hm];exact hA1
  ·cases ht:trm L with
   | nil=>rw[ht] at hx3;cases hx3
   | cons y r =>
    rw[ht,List.cons_append] at hm;exact⟨y,r,rfl,zbP hm⟩
  ·unfold trm at hx3 ⊢
   cases ht:(L.dropWhile blk).reverse.dropWhile blk with
   | nil=>rw[ht] at hx3;cases hx3
   | cons y r=>exact⟨y,r.reverse,by simp,zbP ht⟩
 ·left
  have h2:∀ x ∈ L,blk x=true:=fun x hx=>by
   cases hb:blk x
   ·exact absurd ⟨x,hx,hb⟩ h
   ·rfl
  refine⟨?_,h2⟩
  unfold trm;rw[zb6 h2];rfl
end Go.Proofs.YtifbkdicglcogaaGreat.sv
