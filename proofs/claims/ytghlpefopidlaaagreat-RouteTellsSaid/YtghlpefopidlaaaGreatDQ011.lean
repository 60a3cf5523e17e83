/-
  Entries of broadside. Conditions as told.
-/
import Derived.Test.YtghlpefopidlaaaGreatDQ005
set_option maxRecDepth 100000
set_option maxHeartbeats 64000000
open _root_.Bool renaming false->L,true->Q
open _root_.Go renaming cell_regrown->D,below_regrown->J
open _root_.List renaming getElem?_eq_getElem->O
open Option.some renaming inj->K
namespace Go.Proofs.YtghlpefopidlaaaGreat.Bk
open Go.RowKit Go.Sort Rw YtghlpefopidlaaaGreat.Nm Pr
theorem o8 {α r:Type} {R:α->r->Prop}:∀ {l m} (_:eY R l m) (k:Nat) (a:α),l[k]?=some a->∃ b,m[k]?=some b/\R a b
 | _,_,.nil,k,b,h=>by simp at h
 | _,_,.cons x t,0,b,h=>by
  simp at h;subst h;exact⟨_,rfl,x⟩
 | _,_,.cons x t,k+1,b,h=>by
  obtain⟨a,j,q⟩:=o8 t k b (by simpa using h);exact⟨a,by simpa using j,q⟩
theorem NV (d4 cQ:Value) (l m:List iY) (la F:List En) (w:World) (cC:mF w d4 l) (cD:mF w cQ m) (e3:eY (jF w) l la) (e4:eY (jF w) m F) (e1:∀ (k:Nat) (e:En),la[k]?=some e->e.p.length<=1000000) (e2:∀ (k:Nat) (e:En),F[k]?=some e->e.p.length<=1000000) (e8:l.length<=1000000) :
  Calls Tryz.prog 63 #[d4,cQ] w fun e w'=>e=.returned (.bool (iB Np la F))/\Below w.heap.size w w':=by
 have b5:=hq e3;have c8:=hq e4;have e5:=hq e1;have e6:=hq e2;clear e3 e4 e1 e2;have cP:=hq cC;have bX:=hq cD;obtain⟨eQ,eN,rfl⟩:=cC.len;obtain⟨eS,eR,rfl⟩:=cD.len;clear cC cD;by_cases b4:l.length=m.length
 ·have c6:=hq b4;rw [<- b4] at bX ⊢;obtain⟨n,b6⟩:∃ n,n=l.length:=⟨_,rfl⟩;simp only [<- b6] at cP bX ⊢;have b2:=hq b6.symm;rw [<- b6] at e8;clear b4 b6;go_enter Tryz.func63,Tryz.ntmps63;go_wp2
  go_loopw [13] (fun i wr=>∃ k:Nat,k<=n/\i=.int .i64 k/\Below w.heap.size w wr/\∀ (j:Nat) (x y:En),j<k->la[j]?=some x->F[j]?=some y->Np x y=Q) (fun i _=>n-(intOf i).toNat)
  case atStart=>exact⟨0,Nat.zero_le _,rfl,Below.refl _ _,fun j x y h=>by omega⟩
  case round =>
   obtain⟨k,eV,rfl,cS,cR⟩:=hrel;have u:=hq cS;have bW:=hq cR;clear cS cR;by_cases cT:k<n
   ·obtain⟨x,cH⟩:∃ x,l[k]?=some x:=⟨_,O (by rw [b2.o]; exact cT)⟩;obtain⟨y,cI⟩:∃ y,m[k]?=some y:=⟨_,O (by rw [<- c6.o,b2.o]; exact cT)⟩;obtain⟨p,cU,aE⟩:=Qj cP.o rfl b2.o cH;obtain⟨q,cV,b1⟩:=Qj bX.o rfl (c6.o.symm.trans b2.o) cI;obtain⟨eB,cF,e9⟩:=o8 b5.o k x cH;obtain⟨eC,cG,eA⟩:=o8 c8.o k y cI;obtain⟨b9,bA,bB,bC,⟨eJ,eI,eE⟩,bE,cL⟩:=x;obtain⟨bI,bM,bO,bP,⟨eM,eL,eK⟩,bT,cN⟩:=y;obtain⟨f1,f2,b7,f3,f4⟩:=eB;obtain⟨f5,f6,b8,f7,f8⟩:=eC;obtain⟨rfl,rfl,rfl,rfl,dZ⟩:=e9;obtain⟨rfl,rfl,rfl,rfl,e0⟩:=eA;have cW:=D (aE _ u.o).1;have cX:=D (aE _ u.o).2.1;have cY:=D (aE _ u.o).2.2.1;have d0:=D (aE _ u.o).2.2.2.1;have d1:=D (aE _ u.o).2.2.2.2.1;have d2:=D (aE _ u.o).2.2.2.2.2.1;have d3:=D (aE _ u.o).2.2.2.2.2.2;have d5:=D (b1 _ u.o).1;have d6:=D (b1 _ u.o).2.1;have d7:=D (b1 _ u.o).2.2.1;have d8:=D (b1 _ u.o).2.2.2.1;have d9:=D (b1 _ u.o).2.2.2.2.1;have dA:=D (b1 _ u.o).2.2.2.2.2.1;have dC:=D (b1 _ u.o).2.2.2.2.2.2;have S:=hq (fun d os=>Calls.regrown_of (d:=d) (os:=os) (xg (.slice eJ eI eE) (.slice eM eL eK) b7 b8 _ ((dZ.on u.o).on (J wr d os)) ((e0.on u.o).on (J wr d os)) (e5.o _ _ cF) (e6.o _ _ cG)));have c7:=show Np ⟨(b9,bA),(bB,bC),b7,bE,cL⟩ ⟨(bI,bM),(bO,bP),b8,bT,cN⟩=(Ef (b9,bA) (bI,bM) && (Ef (bB,bC) (bO,bP) && (bE == bT && (cL == cN && kC b7 b8)))) from rfl;obtain⟨dE,a6⟩:∃ r,Ef (b9,bA) (bI,bM)=r:=⟨_,rfl⟩;obtain⟨dS,a7⟩:∃ r,Ef (bB,bC) (bO,bP)=r:=⟨_,rfl⟩;obtain⟨dT,c9⟩:∃ r,(bE == bT)=r:=⟨_,rfl⟩;obtain⟨r5,cA⟩:∃ r,kC b7 b8=r:=⟨_,rfl⟩;have N:=KU b9 bA bI bM (!dE) (by rw [<- a6]; rfl);have M:=KU bB bC bO bP (!dS) (by rw [<- a7]; rfl);have a8:(bE != bT)=!dT:=by rw [<- c9]; rfl
    rw [cA] at S;rw [a6,a7,c9,cA] at c7;have a1:=hq cF;have a2:=hq cG;have T:=hq c7;clear aE b1 cH cI cF cG dZ e0 c7 a6 a7 c9 cA;cases dE
    ·have G:=hq (T.o.trans (show _=L by simp));have R:=hq (show iB Np la F=L from jP la F k _ _ a1.o a2.o G.o);go_wp2;refine ko ?_
     repeat (go_big_quiet_step (first | (with_reducible exact S.o _ _)))
     refine kr fun H I=>?_;go_wp2;go_ret;exact⟨mh R.o.symm,u.o.trans ((J wr H I).mono u.o.size)⟩
    ·cases dS
     ·have G:=hq (T.o.trans (show _=L by simp));have R:=hq (show iB Np la F=L from jP la F k _ _ a1.o a2.o G.o);go_wp2;refine ko ?_
      repeat (go_big_quiet_step (first | (with_reducible exact S.o _ _)))
      refine kr fun H I=>?_;go_wp2;go_ret;exact⟨mh R.o.symm,u.o.trans ((J wr H I).mono u.o.size)⟩
     ·cases dT
      ·have G:=hq (T.o.trans (show _=L by simp));have R:=hq (show iB Np la F=L from jP la F k _ _ a1.o a2.o G.o);go_wp2;refine ko ?_
       repeat (go_big_quiet_step (first | (with_reducible exact S.o _ _)))
       refine kr fun H I=>?_;go_wp2;go_ret;exact⟨mh R.o.symm,u.o.trans ((J wr H I).mono u.o.size)⟩
      ·cases cL <;> cases cN
       ·cases r5
        ·have G:=hq (T.o.trans (show _=L by simp));have R:=hq (show iB Np la F=L from jP la F k _ _ a1.o a2.o G.o);go_wp2;refine ko ?_
         repeat (go_big_quiet_step (first | (with_reducible exact S.o _ _)))
         refine kr fun H I=>?_;go_wp2;go_ret;exact⟨mh R.o.symm,u.o.trans ((J wr H I).mono u.o.size)⟩
        ·have G:=hq (T.o.trans (show _=Q by simp));go_wp2;refine ko ?_
         repeat (go_big_quiet_step (first | (with_reducible exact S.o _ _)))
         refine kr fun H I=>?_;clear cU cV cW d5 cX d6 cY d7 d0 d8 d1 d9 d2 dA d3 dC N M a8;go_wp2
         go_roundw
         case rel=>exact⟨k+1,by omega,by go_num,u.o.trans ((J wr H I).mono u.o.size),fun j cJ cM e7 N M=>by
          rcases Nat.lt_or_ge j k with a8|a8
          ·exact bW.o j cJ cM a8 N M
          ·obtain rfl:j=k:=by omega
           have a6:=a1.o;have a7:=a2.o;rw [N] at a6;rw [M] at a7;rw [K a6,K a7];exact G.o⟩
         case measure=>simp [intOf]; omega
       ·have G:=hq (T.o.trans (show _=L by simp));have R:=hq (show iB Np la F=L from jP la F k _ _ a1.o a2.o G.o);go_wp2;refine ko ?_
        repeat (go_big_quiet_step (first | (with_reducible exact S.o _ _)))
        refine kr fun H I=>?_;go_wp2;go_ret;exact⟨mh R.o.symm,u.o.trans ((J wr H I).mono u.o.size)⟩
       ·have G:=hq (T.o.trans (show _=L by simp));have R:=hq (show iB Np la F=L from jP la F k _ _ a1.o a2.o G.o);go_wp2;refine ko ?_
        repeat (go_big_quiet_step (first | (with_reducible exact S.o _ _)))
        refine kr fun H I=>?_;go_wp2;go_ret;exact⟨mh R.o.symm,u.o.trans ((J wr H I).mono u.o.size)⟩
       ·cases r5
        ·have G:=hq (T.o.trans (show _=L by simp));have R:=hq (show iB Np la F=L from jP la F k _ _ a1.o a2.o G.o);go_wp2;refine ko ?_
         repeat (go_big_quiet_step (first | (with_reducible exact S.o _ _)))
         refine kr fun H I=>?_;go_wp2;go_ret;exact⟨mh R.o.symm,u.o.trans ((J wr H I).mono u.o.size)⟩
        ·have G:=hq (T.o.trans (show _=Q by simp));go_wp2;refine ko ?_
         repeat (go_big_quiet_step (first | (with_reducible exact S.o _ _)))
         refine kr fun H I=>?_;clear cU cV cW d5 cX d6 cY d7 d0 d8 d1 d9 d2 dA d3 dC N M a8;go_wp2
         go_roundw
         case rel=>exact⟨k+1,by omega,by go_num,u.o.trans ((J wr H I).mono u.o.size),fun j cJ cM e7 N M=>by
          rcases Nat.lt_or_ge j k with a8|a8
          ·exact bW.o j cJ cM a8 N M
          ·obtain rfl:j=k:=by omega
           have a6:=a1.o;have a7:=a2.o;rw [N] at a6;rw [M] at a7;rw [K a6,K a7];exact G.o⟩
         case measure=>simp [intOf]; omega
   ·obtain rfl:k=n:=by omega
    have R:=hq (show iB Np la F=Q from tH la F (by rw [<- b5.o.len,<- c8.o.len]; exact c6.o) (fun j a b N M=>bW.o j a b (by have:=(List.getElem?_eq_some_iff.1 N).1; have:=b2.o; have:=b5.o.len; omega) N M));go_wp2;go_ret;exact⟨mh R.o.symm,u.o⟩
 ·have R:=hq (show iB Np la F=L by
   cases h:iB Np la F
   ·rfl
   ·have M:=AO _ _ h;exact absurd (by rw [b5.o.len,c8.o.len]; exact M) b4)
  have eW:(((l.length:Nat):Int) != ((m.length:Nat):Int))=Q:=by simp; omega
  have f0:(((l.length:Nat):Int) == ((m.length:Nat):Int))=L:=by simp; omega
  clear b4;go_enter Tryz.func63,Tryz.ntmps63;go_wp2;go_ret;exact⟨mh R.o.symm,Below.refl _ _⟩
end Go.Proofs.YtghlpefopidlaaaGreat.Bk
