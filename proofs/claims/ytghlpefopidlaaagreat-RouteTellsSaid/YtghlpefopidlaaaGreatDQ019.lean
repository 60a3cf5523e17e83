/-
  raise of package sub. Conditions as told.
-/
import Derived.Test.YtghlpefopidlaaaGreatDQ018
set_option maxRecDepth 100000
set_option maxHeartbeats 64000000
open _root_.Bool renaming false->au,true->aM
open _root_.Go renaming bodyPost_ret->aB,World->aC,Calls->bD
open Go.IntKind renaming i64->ah
open Go.Obj renaming cells->aK
open Go.Proofs.Tryz renaming results114->aG,results117->aN,prog->aQ
open Go.Proofs.YtghlpefopidlaaaGreat.Bk renaming dK->aF
open Go.RowKit.Below renaming refl->aJ
open Go.Value renaming slice->D,int->U,bool->ak,agg->bg
open _root_.List renaming getElem?_cons_zero->J,getElem?_cons_succ->O,getElem?_toArray->Q,append_assoc->ay,getElem?_eq_some_iff->aD,take_append_drop->aI,mem_of_getElem?->aL,getElem?_append_right->aO,getElem?_append_left->aP,getElem?_set_self->aS,getElem?_map->aW,length_take->aX,drop_left'->aY
open _root_.Nat renaming add_sub_cancel_left->aH,le_trans->aR,le_refl->aT,lt_of_lt_of_le->aV,zero_le->bf
open _root_.Option renaming none->aj,some->aA
open _root_.Or renaming inr->aU,inl->aZ
open Go.Proofs.YtghlpefopidlaaaGreat renaming hq->o
namespace Go.Proofs.YtghlpefopidlaaaGreat.Sb
open Go.RowKit Go.Sort Rw YtghlpefopidlaaaGreat.Nm Pr Bk Av Rl
theorem iF {p:List C5} (h:dX p):p.length<=900:=by
 obtain⟨a,j,rfl⟩:=h;rw [List.length_map];have:=j.five;omega
theorem aeb {α:Type} {E:Ek α} {F:Option Nat} {W x:aC} {B g n cap:Nat} {l:List α} (h:Off F W x) (u:Own E W B (D (aA ⟨g,0,aj⟩) n cap) l) (M:aA g≠F):Own E x B (D (aA ⟨g,0,aj⟩) n cap) l:=by
 refine⟨u.1,?_⟩;rcases u.2 with q|⟨H,G,cur,j,q,r,I⟩
 ·exact aZ q
 ·obtain⟨rfl,_⟩:g=H/\True:=by simp at j; exact⟨j.1,trivial⟩
  exact aU ⟨g,G,cur,j,q,by rw [h.1 g (lt_of_heap r) M]; exact r,I⟩
theorem WH (g f k K C:Nat) (h:k<K) (w:aC):(Instr.indexAt 27 (D (aA ⟨g,f * 7,aj⟩) K C) (U ah k)).run aQ w=.ok (.pointer (aA ⟨g,(f+k) * 7,aj⟩)) w:=by
 have q:(Instr.indexAt 27 (D (aA ⟨g,f * 7,aj⟩) K C) (U ah k)).run aQ w=.ok (.pointer (aA ((⟨g,f * 7,aj⟩:Addr).add (k * 7)))) w:=Aq nE ⟨g,f * 7,aj⟩ k K C h w;rw [q];have e:(⟨g,f * 7,aj⟩:Addr).add (k * 7)=⟨g,(f+k) * 7,aj⟩:=by
  rw [Nat.add_mul];by_cases j:k * 7=0
  ·rw [j,add_zero,Nat.add_zero]
  ·rw [add_pos _ _ j]
 rw [e]
theorem aec {α:Type} {E:Ek α} {W:aC} {B g n cap:Nat} {l:List α} (h:Own E W B (D (aA ⟨g,0,aj⟩) n cap) l):B<=g:=by
 rcases gD h with⟨j,_⟩|⟨q,u,cur,j,r,_⟩
 ·cases j
 ·obtain⟨rfl,_⟩:g=q/\True:=by simp at j; exact⟨j.1,trivial⟩
  exact r
theorem But.off {g:Nat} {u:Option Nat} {w W x:aC} (h:But g w W) (r:Off u W x) (F:∀ b,u=aA b->w.heap.size<=b):But g w x :=
 ⟨fun j q G=>(r.1 j (aV q h.2) fun e=>by have:=F j e.symm; omega).trans (h.1 j q G),aR h.2 r.2⟩
theorem Mc {α:Type} {E:Ek α} {W:aC} {B:Nat} {v:Value} {l:List α} (h:Own E W B v l):∀ b,v.ownBlock=aA b->B<=b:=by
 intro b j;rcases gD h with⟨rfl,_⟩|⟨q,u,cur,rfl,r,_⟩
 ·cases j
 ·obtain rfl:q=b:=by simpa [Value.ownBlock] using j
  exact r
theorem Md {W:aC} {B g n cap f K:Nat} {l:List iY} (q:jJ W B (D (aA ⟨g,0,aj⟩) n cap) l) (I:f+K<=n) (H:0<K):mF W (D (aA ⟨g,f * 7,aj⟩) K (cap-f)) ((l.drop f).take K):=by
 have G:l.length=n:=gP q;have M:n<=cap:=by
  rcases gD q with⟨j,_⟩|⟨F,u,cur,j,_,_,r,_⟩
  ·cases j
  ·obtain⟨_,_,rfl⟩:g=F/\n=l.length/\cap=u:=by simpa using j
   rw [G] at r;exact r
 have h:=(Lu (v:=(aA ⟨g,0,aj⟩,n,cap)) (Row.dL q) f K (by omega)).2;unfold cutV at h;simp only at h;rw [if_neg (by omega),mO] at h;exact h
structure Ra (w0 w wr:aC) (B g n cap:Nat) (a c:List En) (s:List En×List En) (v:Value):Prop where
 row:∃ l,jJ wr B (D (aA ⟨g,0,aj⟩) n cap) l/\eY (uN w0 B wr) l (a++s.1++c)
 up:∃ lu,jJ wr w.heap.size v lu/\eY (uN w0 w.heap.size wr) lu s.2
 but:But g w wr
 low:∀ B' W,B'<=g->Below B' W w->Below B' W wr
theorem WJ (w0:aC) (B g n cap f K:Nat) (eA:OA) (eB:Nat) (l:List iY) (m:List En) (w:aC) (e5:Below w0.heap.size w0 w) (g5:w0.heap.size<=B) (S:jJ w B (D (aA ⟨g,0,aj⟩) n cap) l) (cF:eY (uN w0 B w) l m) (f7:f+K<=n) (g9:n<=900)
  (e2:0<K->eA=aA ⟨g,f * 7,aj⟩/\eB=cap-f) (e0:∀ e∈m,dX e.p) :
  bD aQ 159 #[D eA K eB] w fun e w'=>∃ c8:Sl,e=.returned (eu c8)/\Ra w0 w w' B g n cap (m.take f) (m.drop (f+K)) (iO ((m.drop f).take K) K) (eu c8):=by
 obtain⟨a,bT⟩:∃ a,m.take f=a:=⟨_,rfl⟩;obtain⟨u,bX⟩:∃ u,(m.drop f).take K=u:=⟨_,rfl⟩;obtain⟨c,cL⟩:∃ c,m.drop (f+K)=c:=⟨_,rfl⟩;have fL:m.length=n:=by rw [<- cF.len]; exact gP S
 have cP:m=a++u++c:=by
  rw [<- bT,<- bX,<- cL,ay,show m.drop (f+K)=(m.drop f).drop K by rw [List.drop_drop],aI,aI]
 have dZ:a.length=f:=by rw [<- bT,aX]; omega
 have cQ:u.length=K:=by rw [<- bX,aX,List.length_drop]; omega
 have e3:∀ k,(iO u k).1.length=K:=fun k=>by rw [yT,cQ]
 have e1:∀ k,∀ e∈(iO u k).1,dX e.p:=fun k=>by
  induction k with
  | zero=>intro e N; exact e0 e (by rw [cP]; exact List.mem_append_left _ (List.mem_append_right _ N))
  | succ k c7 =>
   rw [pQ];unfold nN
   split
   ·exact c7
   ·rename_i f4 f6
    split
    ·exact c7
    ·intro e N;rcases List.mem_or_eq_of_mem_set N with q|q
     ·exact c7 e q
     ·rw [q]; exact c7 f4 (aL f6)
 rw [bT,bX,cL];have f9:g<w.heap.size:=by
  obtain⟨cur,f8⟩:=jX S;exact f8.lt
 have g6:B<=g:=aec S;have bO:Ra w0 w w B g n cap a c (iO u 0) (D aj 0 0):=⟨⟨l,S,by rw [show a++(iO u 0).1++c=m from cP.symm]; exact cF⟩,⟨[],iR _ _,.nil⟩,But.of_below (aJ _ _),fun _ _ _ h=>h⟩;have dC:=o e5;have eN:=o e1;have eS:=o e3;have eR:=o e2;have g1:=o cQ;have T:=o dZ;have bO:=o bO;have d4:=o (show w0.heap.size<=g from by omega);clear e5 S cF e2 e0 cP bT bX cL fL e1 e3 l m cQ dZ;go_enter Tryz.func159,Tryz.ntmps159;go_wp2
 go_loopw [3,7] (fun v i wr=>∃ k:Nat,k<=K/\i=U ah k/\Ra w0 w wr B g n cap a c (iO u k) v) (fun _ i _=>K-(intOf i).toNat)
 case atStart=>exact⟨0,bf _,rfl,bO.o⟩
 case round =>
  obtain⟨k,g8,rfl,cH⟩:=hrel;have H:=o cH;have e6:Below w0.heap.size w0 wr:=cH.low _ _ d4.o dC.o;have dE:=o e6;clear cH e6 bO;by_cases cN:k<K
  ·obtain⟨f1,f2⟩:=eR.o (by omega);subst f1;subst f2;obtain⟨L,bB,b2⟩:=H.o.row;have bC:=eS.o k;obtain⟨s,cR⟩:∃ s,iO u k=s:=⟨_,rfl⟩;have cC:=o (pQ u k);have b8:=o (eN.o k);rw [cR] at b2 bC H cC b8;obtain⟨I,cW⟩:=s;simp only at b2 bC b8;obtain⟨e,N⟩:∃ e,I[k]?=aA e:=⟨_,List.getElem?_eq_getElem (by omega)⟩;have cG:(a++I++c)[f+k]?=aA e:=by
    rw [ay,aO (by rw [T.o]; omega),T.o,aH,aP (by omega)];exact N
   obtain⟨y,cU,c6⟩:=b2.at (f+k) e cG;have e7:=WH g f k K (cap-f) cN;have r:=kR nE bB cU wr (aJ _ _);obtain⟨cur,cJ⟩:=jX bB;have fr:=cJ.fr ((f+k) * 7+6);have bE:=cJ.lt;obtain⟨a2,a6,a7,a8,⟨b7,b6,b5⟩,aE,eI⟩:=y;have c0:=r 0 _ rfl;have c1:=r 1 _ rfl;have c2:=r 2 _ rfl;have c3:=r 3 _ rfl;have c4:=r 4 _ rfl;have c5:=r 5 _ rfl;have a1:=r 6 _ rfl;simp [Addr.add,EN] at c0 c1 c2 c3 c4 c5 a1;have d2:=Md (f:=f) (K:=K) bB f7 (by omega);have d1:eY (jF wr) ((L.drop f).take K) I:=by
    have h:=((b2.drop f).take K).mono fun _ _ G=>Gc G dE.o;rw [ay,aY T.o,List.take_left' bC] at h;exact h
   obtain⟨t,cS⟩:∃ t,Bc I e.p=t:=⟨_,rfl⟩;have bI:=o (vU (aA ⟨g,f * 7,aj⟩,K,cap-f) (D b7 b6 b5) _ I e.p wr d2 d1 (Gc c6 dE.o).2.2.2.2 b8.o (b8.o e (aL N)));rw [cS] at bI;have bM:=o c6;have d5:=o bB;have eK:=o b2;have d7:=o cU;have d6:=o cG;have cA:=o (show iO u (k+1)=if eI=aM\/t=aM then (I,cW) else (I.set k (Ig e),cW++[Ig e]) by
    rw [cC.o];unfold nN;simp only [N];rw [cS,<- c6.2.2.2.1])
   have gA:IntKind.i64.wrap ((k:Int)+1)=(k:Int)+1:=IntWalk.i64_in _ (by omega);have eV:=o cR;have dA:=o bC;clear r cJ d2 d1 cS c6 bB b2 cU cG N cC cR bC;cases eI
   ·go_wp2_with fail;refine bI.o.mono ?_;rintro g3 M ⟨rfl,j⟩;clear bI;cases t
    ·have f3:=(j.cell (p:=⟨g,(f+k) * 7+6,aj⟩) bE).trans a1;have f5:M.frozen? ⟨g,(f+k) * 7+6,aj⟩=au:=(j.frozen (p:=⟨g,(f+k) * 7+6,aj⟩) bE).trans fr;have z3:g<M.heap.size:=aV bE j.size;obtain⟨cV,e4,cT⟩:=H.o.up;obtain⟨e9,_,_⟩:=Tw (aF d5.o j) d7.o;have bP:=eH M g ((f+k) * 7+6) (ak aM);obtain⟨g2,cM⟩:=jX (aF d5.o j);have b1:∀ x z,uN w0 B wr x z->uN w0 B (M.setCell ⟨g,(f+k) * 7+6,aj⟩ (ak aM)) x z:=fun x z G=>(G.grow j).but bP cM (by decide);have d3:∀ x z,uN w0 w.heap.size wr x z->uN w0 w.heap.size (M.setCell ⟨g,(f+k) * 7+6,aj⟩ (ak aM)) x z:=fun x z G=>(G.grow j).but bP cM (by decide);have c9:=o e9;have A4:=o (eY.set2 (f+k) (eK.o.mono b1) (show uN w0 B (M.setCell ⟨g,(f+k) * 7+6,aj⟩ (ak aM)) (a2,a6,a7,a8,(b7,b6,b5),aE,aM) (Ig e) from ⟨(b1 _ _ bM.o).1,(b1 _ _ bM.o).2.1,(b1 _ _ bM.o).2.2.1,rfl,(b1 _ _ bM.o).2.2.2.2⟩));have cD:=o (eF (aF e4 j) g ((f+k) * 7+6) (ak aM) f9);have f0:=o (cT.mono d3);have cY:=o ((H.o.but.trans (But.of_below j)).trans bP);have d9:=o (show ∀ B' W,B'<=g->Below B' W w->Below B' W (M.setCell ⟨g,(f+k) * 7+6,aj⟩ (ak aM)) from fun B' W q F=>((H.o.low B' W q F).trans (j.mono (by have:=bE; omega))).setCell (p:=⟨g,(f+k) * 7+6,aj⟩) q _);have d8:=o (show (L.set (f+k) (a2,a6,a7,a8,(b7,b6,b5),aE,aM))[f+k]?=aA (a2,a6,a7,a8,(b7,b6,b5),aE,aM) from aS (aD.1 d7.o).1);have eW:=o (show cV.length<=1000 by
      have q:cV.length=cW.length:=cT.len;have F:=JB u k;rw [eV.o] at F;simp only at F;omega)
     have eQ:=o (iF (b8.o e (by
      have h:=d6.o;rw [ay,aO (by rw [T.o]; omega),T.o,aH,aP (by rw [dA.o]; exact cN)] at h;exact aL h)))
     have eJ:=o (show (a++I++c).set (f+k) (Ig e)=a++I.set k (Ig e)++c by
      rw [ay,List.set_append_right _ _ (by rw [T.o]; omega),T.o,aH,List.set_append_left _ _ (by rw [dA.o]; exact cN),ay])
     clear e4 cT e9 bP cM b1 d3 c0 c1 c2 c3 c4 c5 a1 fr;go_upto_region 7 with fail;clear f3 f5 z3 j;generalize M.setCell ⟨g,(f+k) * 7+6,aj⟩ (ak aM)=cX at *;have r:=kR nE c9.o d8.o cX (aJ _ _);have c0:=r 0 _ rfl;have c1:=r 1 _ rfl;have c2:=r 2 _ rfl;have c3:=r 3 _ rfl;have c4:=r 4 _ rfl;have c5:=r 5 _ rfl;have a1:=r 6 _ rfl;simp [Addr.add,EN] at c0 c1 c2 c3 c4 c5 a1;have bA:=o (show uN w0 B cX (a2,a6,a7,a8,(b7,b6,b5),aE,aM) (Ig e) from by
      obtain⟨gC,q,F⟩:=A4.o.at (f+k) (Ig e) (aS (aD.1 d6.o).1);rw [d8.o] at q;rw [Option.some.inj q];exact F)
     have d0:=o (Lg (a2,a6,a7,a8,(b7,b6,b5),aE,aM) e.p cX (Gc bA.o (d9.o _ _ d4.o dC.o)).2.2.2.2 eQ.o);clear r;go_wp2_with fail;refine d0.o.mono ?_;rintro g4 g0 ⟨⟨⟨eE,u2,u3⟩,rfl,S⟩,j⟩;have eC:=cY.o.2;obtain⟨c8,w',fX,e8,dS,dT,bW⟩:=ai8 (w0:=w0) (B:=w.heap.size) (a2,a6,a7,a8,(eE,u2,u3),aE,aM) (Ig e) (aF cD.o j) (f0.o.mono fun _ _ G=>G.grow j) ⟨bA.o.1,bA.o.2.1,bA.o.2.2.1,bA.o.2.2.2.1,aU (dO S eC)⟩ eW.o (by have:=j.size; omega);have b4:=fP g0 (aK (jE (a2,a6,a7,a8,(eE,u2,u3),aE,aM)).toArray 67);have cI:=Mc cD.o;have b9:=o (show Ra w0 w w' B g n cap a c (iO u (k+1)) c8 from by
      rw [cA.o,if_neg (by simp)];have g7:=jX (aF (aF c9.o j) b4);refine⟨⟨_,aeb bW (aF (aF c9.o j) b4) fun e=>?_,?_⟩,⟨_,e8,dS⟩,But.off ((cY.o.trans (But.of_below j)).trans (But.of_below b4)) bW cI,fun B' W q F=>dT B' W (by omega) ((d9.o B' W q F).trans (j.mono (by omega)))⟩
      ·have:=cI g e.symm;omega
      ·rw [<- eJ.o];have fY:=jQ (aF (aF cD.o j) b4);exact A4.o.mono fun _ _ G=>(((G.grow j).grow b4).off bW fY (by decide)))
     clear d0 j S e8 dS dT bW b4 cI c0 c1 c2 c3 c4 c5 a1 e7 eC;go_wp2_with (first | (at_builtin; refine wpList_append_run rfl _ _ 27 rfl rfl rfl fX ?_) | fail)
     go_roundw
     case rel=>exact⟨k+1,by omega,by go_num,b9.o⟩
     case measure=>simp [intOf]; omega
    ·have b9:=o (show Ra w0 w M B g n cap a c (iO u (k+1)) _ from by
      rw [cA.o,if_pos (aU rfl)];obtain⟨fR,fS,fV,fW⟩:=H.o;exact⟨by obtain⟨l,q,F⟩:=fR; exact⟨l,aF q j,F.mono fun _ _ G=>G.grow j⟩,by obtain⟨l,q,F⟩:=fS; exact⟨l,aF q j,F.mono fun _ _ G=>G.grow j⟩,fV.trans (But.of_below j),fun B' W q F=>(fW B' W q F).trans (j.mono (by have:=bE; omega))⟩)
     clear j c0 c1 c2 c3 c4 c5 a1 fr e7;go_wp2
     go_roundw
     case rel=>exact⟨k+1,by omega,by go_num,b9.o⟩
     case measure=>simp [intOf]; omega
   ·clear bI;have b9:=o (show Ra w0 w wr B g n cap a c (iO u (k+1)) _ from by
     rw [cA.o,if_pos (aZ rfl)];exact H.o)
    go_wp2
    go_roundw
    case rel=>exact⟨k+1,by omega,by go_num,b9.o⟩
    case measure=>simp [intOf]; omega
  ·obtain rfl:K=k:=by omega
   obtain⟨cV,hu,_⟩:=H.o.up;obtain⟨eM,eL,fN⟩:=(Row.dL hu).len;subst fN;clear hu;go_wp2;go_ret;exact⟨(eM,_,eL),rfl,H.o⟩
theorem PM.less {w0 wr:aC} {B B':Nat} {v:Value} {p:List C5} (h:PM w0 B wr v p) (hB:B'<=B):PM w0 B' wr v p:=h.imp id fun h=>dO h hB
theorem Cp.less {w0 wr:aC} {B B':Nat} {b:Br} {F av H u G:Sl} (h:Cp w0 B wr b F av H u G) (hB:B'<=B):Cp w0 B' wr b F av H u G where
 near:=dO h.near hB
 seen:=dO h.seen hB
 dQ:=by obtain⟨l,q,r⟩:=h.dQ; exact⟨l,dO q hB,r.mono fun _ _ j=>⟨j.1,j.2.1,PM.less j.2.2 hB⟩⟩
 ent:=by obtain⟨l,q,r⟩:=h.ent; exact⟨l,dO q hB,r.mono fun _ _ j=>⟨j.1,j.2.1,j.2.2.1,j.2.2.2.1,PM.less j.2.2.2.2 hB⟩⟩
 own:=by obtain⟨l,q,r⟩:=h.own; exact⟨l,dO q hB,r.mono fun _ _ j=>⟨j.1,PM.less j.2 hB⟩⟩
def OX (b:Br) (e:En):Br×Bool:=match gY b.dQ e.tree with
 | none=>(b,au)
 | some a=>if nK b.ent e.tree e.sub=aM then (b,au) else if e.from_=a.par/\a.par≠-1 then (b,au) else
  ({ b with ent:=gL b.ent (eU (b.ent.map fE) (e.tree,e.sub)) { e with up:=!(a.par == -1) && !fH b.ent e.tree e.p } },!(a.par == -1) && !fH b.ent e.tree e.p)
theorem xO {b:Br} (a6:kD b.ent) {e:En}:OX b e=iL b e:=by
 unfold OX iL;have S:=Fx a6 e.tree e.sub;have N:fE e=(e.tree,e.sub):=rfl;rw [N,S];by_cases h:fQ (b.dQ.map Ad.id) e.tree=-1
 ·have a2:gY b.dQ e.tree=aj:=uR fun G a F=>Jy (key:=Ad.id) h G a F;rw [a2];cases b.dQ[(fQ (b.dQ.map Ad.id) e.tree).toNat]? with
  | none=>rfl
  | some a=>simp only; rw [if_pos h]
 ·obtain⟨k,I⟩:∃ k:Nat,fQ (b.dQ.map Ad.id) e.tree=k:=⟨(fQ (b.dQ.map Ad.id) e.tree).toNat,by have:=tC (b.dQ.map Ad.id) e.tree; omega⟩;obtain⟨q,T⟩:=AY I;rw [aW] at q;cases r:b.dQ[k]? with
  | none=>rw [r] at q; cases q
  | some a =>
   rw [r] at q;have a7:a.id=e.tree:=Option.some.inj q;have a1:gY b.dQ e.tree=aA a:=tN r a7 fun G z F a8=>T G z.id F (by rw [aW,a8]; rfl);rw [a1,I,Int.toNat_natCast,r];simp only;rw [if_neg (show ¬ ((k:Int)=-1) by omega)];have M:(!(a.par == -1))=decide (a.par≠-1):=by by_cases j:a.par=-1 <;> simp [j]
   rw [M];by_cases u:nK b.ent e.tree e.sub=aM
   ·rw [if_pos u,if_pos u,if_pos (by omega)]
   ·rw [if_neg u,if_neg u,if_neg (show ¬ ((-1:Int)≠-1) by simp)];by_cases j:e.from_=a.par/\a.par≠-1
    ·rw [if_pos j,if_pos ⟨by rw [j.1]; exact j.2,j.1⟩]
    ·rw [if_neg j,if_neg fun H=>j ⟨H.2,by rw [<- H.2]; exact H.1⟩]
def Me (W:aC) (P R:Prop) (m:List En) (j:Br×Bool) (e:Ending) (w':aC):Prop:=(∃ q av F r u:Sl,e=.returned (.tuple #[mg j.1.me q av F r u,ak j.2])/\iT w' j.1 q av F r u/\(P->mo w' q j.1.near)/\(R\/j.2=aM->mq w' j.1 q av F r u)/\(j.1.ent=m\/∃ (V:aC) (B:Nat),W.heap.size<=B/\Cp (vw V) B w' j.1 q av F r u))/\Below W.heap.size W w'
theorem Me.two {W:aC} {P R:Prop} {m:List En} {j:Br×Bool} {e:Ending} {w':aC} (h:Me W P R m j e w'):zK W P R j e w':=by
 obtain⟨⟨q,r,a3,a4,a5,u,F,G,H,_⟩,I⟩:=h;exact⟨⟨q,r,a3,a4,a5,u,F,G,H⟩,I⟩
theorem WK (b:Br) (e:En) (h8 av hL hG hK:Sl) (x:iY) (w:aC) (h:iT w b h8 av hL hG hK) (h3:jF w x e) (k0:Am b) (hX:rR b) (k5:kD b.ent) (k4:∀ e∈b.ent,dX e.p) (k3:dX e.p) :
  bD aQ 114 #[mg b.me h8 av hL hG hK,qd x] w (Me w (mo w h8 b.near) (mq w b h8 av hL hG hK) b.ent (iL b e)):=by
 obtain⟨no,cD,cC⟩:=h8;obtain⟨c9,c8,c7⟩:=av;obtain⟨cI,cH,sc⟩:=hL;obtain⟨c6,bX,bW⟩:=hG;obtain⟨cG,cA,cF⟩:=hK;obtain⟨u,F,G,H,⟨fX,fW,fV⟩,M,cW⟩:=x;obtain⟨d2,cV,hH,jI⟩:=gT w #[U ah b.me,D no cD cC,D c9 c8 c7,D cI cH sc,D c6 bX bW,D cG cA cF] #[U ah u,U ah F,U ah G,U ah H,D fX fW fV,U ah M,ak cW] #[U ah 0,D aj 0 0,D aj 0 0,D aj 0 0,D aj 0 0,D aj 0 0] 30 67 30;have hD:=o d2;have hS:=o cV;have hT:=o hH;have j5:=o jI;have f4:=o h;have e6:=o h3;have f3:=o k0;have j1:=o hX;have eI:=o k5;have k8:=o k4;have hO:=o k3;obtain⟨la,jV,jY⟩:=h.dQ;have j3:=o (NK b.me (D no cD cC) (D cI cH sc) (D c6 bX bW) (D cG cA cF) (c9,c8,c7) la b.dQ (u,F) _ (jV.on hD.o) (jY.mono fun _ _ q=>q.on hD.o) hX.dQ);have d1:=o (show e.tree=(u,F) from h3.1.symm);have f2:=o (show e.sub=(G,H) from h3.2.1.symm);have iG:=o (show e.from_=M from h3.2.2.1.symm);obtain⟨a6,a7,aE,b1,j,bP⟩:=hS.o.fA;obtain⟨e7,e8,e9,eA,h2,e1,d6⟩:=hT.o.oz;clear d2 cV hH jI h h3 k0 hX k5 k4 k3 jV jY la;go_enter Tryz.func114,Tryz.ntmps114;go_wp2_with fail;generalize ((w.alloc (aK #[U ah b.me,D no cD cC,D c9 c8 c7,D cI cH sc,D c6 bX bW,D cG cA cF] 30)).alloc (aK #[U ah u,U ah F,U ah G,U ah H,D fX fW fV,U ah M,ak cW] 67)).alloc (aK #[U ah 0,D aj 0 0,D aj 0 0,D aj 0 0,D aj 0 0,D aj 0 0] 30)=W at *;refine j3.o.mono ?_;rintro kA w1 ⟨h7,I⟩;have i9:=o (hD.o.trans (I.mono hD.o.size));have j7:=o (hS.o.on I);have j8:=o (hT.o.on I);have j9:=o (j5.o.on I);clear I j3 hS hT j5;clear a6 a7 aE b1 j bP;clear e7 e8 e9 eA h2 e1 d6;obtain⟨⟨i1,i2,⟨i6,i5,i4⟩,e2⟩,kn,rfl,k2⟩:∃ (r:ku) (kn:Bool),kA=.returned (.tuple #[nC r,ak kn])/\((kn=au/\gY b.dQ (u,F)=aj)\/(kn=aM/\∃ a,gY b.dQ (u,F)=aA a/\r.2.2.2=a.par)):=by
  cases k1:gY b.dQ (u,F) with
  | none =>
   rw [k1] at h7;exact⟨_,au,h7,aZ ⟨rfl,rfl⟩⟩
  | some a =>
   rw [k1] at h7;obtain⟨r,cV,hH⟩:=h7;exact⟨r,aM,cV,aU ⟨rfl,a,rfl,hH.2.1⟩⟩
 have g7:=o k2;have a2:=fP w1 (aK #[U ah i1,U ah i2,D i6 i5 i4,U ah e2] 36);have i8:=o (dR w1 #[U ah i1,U ah i2,D i6 i5 i4,U ah e2] 36);have hC:=o (i9.o.trans (a2.mono i9.o.size));have hU:=o (j7.o.on a2);have fR:=o (j8.o.on a2);have j6:=o (j9.o.on a2);obtain⟨k6,hY,hJ⟩:=f4.o.ent;have hQ:=o (JE (c6,bX,bW) k6 b.ent (u,F) (G,H) _ (hY.on hC.o) (hJ.mono fun _ _ q=>q.on hC.o) eI.o (by rw [hJ.len]; have:=f3.o.ent; omega));have k9:=o hY;have jB:=o hJ;obtain⟨k,hI⟩:∃ k,eU (b.ent.map fE) ((u,F),(G,H))=k:=⟨_,rfl⟩;obtain⟨l1,hZ⟩:∃ k,nK b.ent (u,F) (G,H)=k:=⟨_,rfl⟩;rw [hI,hZ] at hQ;have j0:=o hI;have hF:=o hZ;have j2:=o (show k<=b.ent.length by rw [<- hI]; simpa using nR (b.ent.map fE) ((u,F),(G,H)));have j:=hU.o.cell 4;simp only [Q,J,O] at j;have e8:=fR.o.cell 1;have e7:=fR.o.cell 0;have e9:=fR.o.cell 2;have eA:=fR.o.cell 3;simp only [Q,J,O] at e7 e8 e9 eA;clear k2 h7 a2 hY hJ hI hZ j7 j8 j9;go_wp2_with fail;generalize l0:w1.alloc (aK #[U ah i1,U ah i2,D i6 i5 i4,U ah e2] 36)=l6 at *;refine hQ.o.mono ?_;rintro l4 cJ ⟨rfl,I⟩;have bB:=o (hC.o.trans (I.mono hC.o.size));have cM:=o (hU.o.on I);have bC:=o (fR.o.on I);have cN:=o (j6.o.on I);have j4:=i8.o.on I;clear j;clear e7 e8 e9 eA;have a3:=j4.cell 3;have e1:=bC.o.cell 5;simp only [Q,J,O] at a3 e1;obtain⟨jD,kO⟩:∃ q,(M == e2)=q:=⟨_,rfl⟩;obtain⟨rt,kQ⟩:∃ q,(e2 == -1)=q:=⟨_,rfl⟩;have iS:=o kO;have hE:=o kQ;clear I hQ j4 hU fR j6 i8 l0;cases kn
 ·have e0:=o (show iL b e=(b,au) from by
   rw [<- xO eI.o];unfold OX;have d2:gY b.dQ e.tree=aj:=by
    rw [d1.o];rcases g7.o with⟨_,h⟩|⟨h,_⟩
    ·exact h
    ·cases h
   rw [d2])
  have bO:=cM.o;have N:=cN.o;obtain⟨a6,a7,aE,b1,j,bP⟩:=bO.fA;obtain⟨z0,d8,d9,z3,z4,z5⟩:=N.fA;obtain⟨f5,f6,f7,f8,f9,fL⟩:=N.kg;have fN:=N.lt;have bE:=o (dM N (U ah b.me) (D no cD cC) (D c9 c8 c7) (D cI cH sc) (D c6 bX bW) (D cG cA cF));have a1:=o (dJ (b:=w.heap.size+1+1) bB.o (by omega) (U ah b.me) (D no cD cC) (D c9 c8 c7) (D cI cH sc) (D c6 bX bW) (D cG cA cF));clear bO N;go_wp2_with fail;clear z0 d8 d9 z3 z4 z5;obtain⟨v0,e3,e4,v3,v4,v5⟩:=bE.o.fA;refine aB (v:=.tuple #[bg #[U ah b.me,D no cD cC,D c9 c8 c7,D cI cH sc,D c6 bX bW,D cG cA cF],ak au]) (by simp [results,aG,go_sem,v0,e3,e4,v3,v4,v5]) rfl ?_;rw [e0.o];exact⟨⟨(no,cD,cC),(c9,c8,c7),(cI,cH,sc),(c6,bX,bW),(cG,cA,cF),rfl,f4.o.on a1.o,fun h=>h.on a1.o,fun h=>(h.resolve_right (by simp)).on a1.o,aZ rfl⟩,a1.o⟩
 ·cases l1
  ·cases rt
   ·cases jD
    ·have a7:=bC.o.cell 1;have a6:=bC.o.cell 0;have aE:=bC.o.cell 2;have b1:=bC.o.cell 3;have j:=bC.o.cell 4;have cT:=bC.o.cell 6;simp only [Q,J,O] at a6 a7 aE b1 j cT;have hP:=o (show fO cJ (D fX fW fV) e.p from (e6.o.2.2.2.2).on bB.o);have hR:=o (show w.heap.size<=cJ.heap.size from bB.o.size);have d3:=o (Lg (u,F,G,H,(fX,fW,fV),M,cW) e.p cJ hP.o (iF hO.o));go_wp2_with fail;refine d3.o.mono ?_;rintro kB eN ⟨⟨⟨a8,u2,u3⟩,rfl,h6⟩,I⟩;clear a6 a7 aE b1 j cT;clear a3 e1;have bT:=bC.o.on I;obtain⟨a6,a7,aE,b1,j,bP,cT⟩:=bT.oz;obtain⟨eR,eS,eV,eW,d5,f0,f1⟩:=bT.fs7;have cU:=bT.lt;have S:=NS eN (w.heap.size+1) (U ah u) (U ah F) (U ah G) (U ah H) (D a8 u2 u3) (U ah M) (ak cW);have bM:=o (Fq bT (U ah u) (U ah F) (U ah G) (U ah H) (D a8 u2 u3) (U ah M) (ak cW));have dA:=o (S.box (cM.o.on I) (by omega));have dE:=o (S.box (cN.o.on I) (by omega));have dC:=o (S.own h6 bT (by decide));have d0:=o (yQ (b:=w.heap.size+1) (bB.o.trans (I.mono bB.o.size)) (by omega) (U ah u) (U ah F) (U ah G) (U ah H) (D a8 u2 u3) (U ah M) (ak cW));have dS:=o (show cJ.heap.size<=(NP eN (w.heap.size+1) (U ah u) (U ah F) (U ah G) (U ah H) (D a8 u2 u3) (U ah M) (ak cW)).heap.size by have:=I.size; simp; omega);have g9:=o (show w.heap.size+1+1<cJ.heap.size from cN.o.lt);clear bT h6 I d3 cM bC cN bB S;go_upto_region 7 with fail;clear a6 a7 aE b1 j bP cT eR eS eV eW d5 f0 f1 cU;unfold NP at bM dA dE dC d0 dS;generalize (((((((eN).setCell ⟨w.heap.size+1,0,aj⟩ (U ah u)).setCell ⟨w.heap.size+1,1,aj⟩ (U ah F)).setCell ⟨w.heap.size+1,2,aj⟩ (U ah G)).setCell ⟨w.heap.size+1,3,aj⟩ (U ah H)).setCell ⟨w.heap.size+1,4,aj⟩ (D a8 u2 u3)).setCell ⟨w.heap.size+1,5,aj⟩ (U ah M)).setCell ⟨w.heap.size+1,6,aj⟩ (ak cW)=fS at *;have a7:=bM.o.cell 1;have a6:=bM.o.cell 0;have j:=bM.o.cell 4;simp only [Q,J,O] at a6 a7 j;obtain⟨z0,d8,d9,z3,z4,z5⟩:=dA.o.fA;have hN:=o (Z7 b.me (D no cD cC) (D c9 c8 c7) (D cI cH sc) (D cG cA cF) (c6,bX,bW) k6 b.ent (u,F) (D a8 u2 u3) e.p fS (k9.o.on d0.o) (jB.o.mono fun _ _ q=>q.on d0.o) eI.o (by rw [jB.o.len]; have:=f3.o.ent; omega) (Row.dL dC.o) k8.o hO.o);obtain⟨cv,hV⟩:∃ c,fH b.ent (u,F) e.p=c:=⟨_,rfl⟩;rw [hV] at hN;have k7:=o hV;clear hV;go_wp2_with fail;refine hN.o.mono ?_;rintro l5 hM ⟨rfl,I⟩;clear a6 a7 j;clear z0 d8 d9 z3 z4 z5
     replace bM:=o (bM.o.on I)
     replace dA:=o (dA.o.on I)
     replace dE:=o (dE.o.on I)
     replace dC:=o (aF dC.o I)
     replace dS:=o (aR dS.o I.size)
     replace d0:=o (d0.o.trans (I.mono d0.o.size))
     clear hN I;have cT:=bM.o.cell 6;have f1:=bM.o.fr 6;have cU:=bM.o.lt;simp only [Q,J,O] at cT;have S:=eH hM (w.heap.size+1) 6 (ak (!cv));have bC:=o (show dN (hM.setCell ⟨w.heap.size+1,6,aj⟩ (ak (!cv))) (w.heap.size+1) #[U ah u,U ah F,U ah G,U ah H,D a8 u2 u3,U ah M,ak (!cv)] 67 by simpa using eD (k:=6) bM.o (ak (!cv)));have cM:=o (S.box dA.o (by omega));have cN:=o (S.box dE.o (by omega));have gR:=o (S.own dC.o bM.o (by decide));have bB:=o (d0.o.setCell (p:=⟨w.heap.size+1,6,aj⟩) (by simp) (ak (!cv)));have h0:=o (show cJ.heap.size<=(hM.setCell ⟨w.heap.size+1,6,aj⟩ (ak (!cv))).heap.size by have:=dS.o; simp; omega);clear S dA bM dE dC d0 dS;go_upto_region 8 with fail;clear cT f1 cU;generalize hM.setCell ⟨w.heap.size+1,6,aj⟩ (ak (!cv))=h9 at *;have e0:=o (show iL b e=({ b with ent:=gL b.ent k { e with up:=(!cv) } },(!cv)) from by
      rw [<- xO eI.o];unfold OX;obtain⟨a,d2,cV⟩:∃ a,gY b.dQ e.tree=aA a/\e2=a.par:=by
       rw [d1.o];rcases g7.o with⟨h,_⟩|⟨_,h⟩
       ·cases h
       ·exact h
      rw [d2];simp only;rw [if_neg (by rw [d1.o,f2.o,hF.o]; simp),if_neg ?_,show eU (b.ent.map fE) (e.tree,e.sub)=k by rw [d1.o,f2.o]; exact j0.o,<- cV,hE.o]
      ·rw [d1.o,k7.o]
       rfl
      ·rintro⟨g,_⟩;rw [iG.o,<- cV] at g;have:=iS.o;simp at this;exact this g)
     have bO:=cM.o;obtain⟨a6,a7,aE,b1,j,bP⟩:=bO.fA;clear bO;go_wp2_with fail;refine (qL b (no,cD,cC) (c9,c8,c7) (cI,cH,sc) (c6,bX,bW) (cG,cA,cF) w h9 bB.o f4.o f3.o j1.o).mono ?_;rintro kE eQ ⟨⟨⟨b2,b7,s1⟩,⟨b4,b8,s2⟩,⟨b5,b9,s3⟩,⟨cR,cS,s4⟩,⟨b6,bA,s5⟩,rfl,h1⟩,cQ⟩;clear a6 a7 aE b1 j bP;have cP:=cM.o.on cQ;have bT:=o (bC.o.on cQ);have V3:=o (cN.o.on cQ);obtain⟨a6,a7,aE,b1,j,bP⟩:=cP.fA;obtain⟨eR,eS,eV,eW,d5,f0⟩:=cP.kg;have cU:=cP.lt;have S:=eP eQ w.heap.size (U ah b.me) (D b2 b7 s1) (D b4 b8 s2) (D b5 b9 s3) (D cR cS s4) (D b6 bA s5);have bE:=o (dM cP (U ah b.me) (D b2 b7 s1) (D b4 b8 s2) (D b5 b9 s3) (D cR cS s4) (D b6 bA s5));have bI:=o (Sb.Cp.less (h1.but S cP) (show cJ.heap.size<=h9.heap.size from h0.o));have eE:=o (S.own (aF gR.o cQ) cP (by decide));have a1:=o (dJ (b:=w.heap.size) (bB.o.trans (cQ.mono bB.o.size)) (aT _) (U ah b.me) (D b2 b7 s1) (D b4 b8 s2) (D b5 b9 s3) (D cR cS s4) (D b6 bA s5));have dT:=o (S.box bT.o (by omega));have eC:=o (S.box V3.o (by omega));have eJ:=o (show cJ.heap.size<=(gH eQ w.heap.size (U ah b.me) (D b2 b7 s1) (D b4 b8 s2) (D b5 b9 s3) (D cR cS s4) (D b6 bA s5)).heap.size by have:=cQ.size; have:=h0.o; simp; omega);clear cP bT V3 h1 cQ S cM bC cN gR bB;go_upto_region 9 with fail;clear a6 a7 aE b1 j bP eR eS eV eW d5 f0 cU;unfold gH at bE bI a1 dT eC eJ eE;generalize ((((((eQ).setCell ⟨w.heap.size,0,aj⟩ (U ah b.me)).setCell ⟨w.heap.size,1,aj⟩ (D b2 b7 s1)).setCell ⟨w.heap.size,2,aj⟩ (D b4 b8 s2)).setCell ⟨w.heap.size,3,aj⟩ (D b5 b9 s3)).setCell ⟨w.heap.size,4,aj⟩ (D cR cS s4)).setCell ⟨w.heap.size,5,aj⟩ (D b6 bA s5)=e5 at *;obtain⟨le,h4,h5⟩:=bI.o.ent;have d7:=o h4;have dZ:=o h5;clear h4 h5;have a2:=fP e5 (aK #[U ah u,U ah F,U ah G,U ah H,D a8 u2 u3,U ah M,ak (!cv)] 67);have bx:=dR e5 #[U ah u,U ah F,U ah G,U ah H,D a8 u2 u3,U ah M,ak (!cv)] 67;have g8:=o (Cx cJ.heap.size (D cR cS s4) le k (u,F,G,H,(a8,u2,u3),M,(!cv)) e5.heap.size _ (aF d7.o a2) bx (fun e=>by
      obtain⟨d,hW⟩:=jQ d7.o _ e;have:=hW.lt;omega) (by rw [dZ.o.len]; exact j2.o) (by rw [dZ.o.len]; exact f3.o.ent) (aR eJ.o a2.size))
     have g0:=o (bE.o.on a2);have eB:=o (dT.o.on a2);have fY:=o (eC.o.on a2);have g3:=o (aF eE.o a2);have g1:=o (bI.o.grow a2);have g2:=o (a1.o.trans (a2.mono a1.o.size));have g6:=o (dZ.o.mono fun _ _ q=>q.grow a2);have d4:=o (jQ (aF d7.o a2));have j:=bE.o.cell 4;simp only [Q,J,O] at j;obtain⟨e7,e8,e9,eA,h2,e1,d6⟩:=dT.o.oz;clear a2 bx;go_wp2_with fail;refine g8.o.mono ?_;rintro kK cL ⟨l2,rfl,eM,eK,eL⟩;clear j;clear e7 e8 e9 eA h2 e1 d6;generalize e5.alloc (aK #[U ah u,U ah F,U ah G,U ah H,D a8 u2 u3,U ah M,ak (!cv)] 67)=i7 at *;obtain⟨t1,t2,i0⟩:=(Row.dL eM).len;subst i0;generalize (le.take k++(u,F,G,H,(a8,u2,u3),M,(!cv))::le.drop k).length=T at *;have cY:Off (D cR cS s4).ownBlock i7 cL:=⟨eL,eK.size⟩;have d3:=o (g1.o.adL (ev':=(t1,T,t2)) (el:=gL b.ent k { e with up:=(!cv) }) cY ⟨gL le k (u,F,G,H,(a8,u2,u3),M,(!cv)),by unfold gL; rw [ay]; exact eM,zH (g6.o.mono fun _ _ q=>q.off cY d4.o (by decide)) k ⟨e6.o.1,e6.o.2.1,e6.o.2.2.1,rfl,aU (cY.own g3.o d4.o (by decide))⟩⟩);have cX:=cY.box g0.o d4.o (by decide);have g5:=cY.box fY.o d4.o (by decide);have g4:=o (show dN cL (w.heap.size+1) #[U ah u,U ah F,U ah G,U ah H,D a8 u2 u3,U ah M,ak (!cv)] 67 from (eL _ eB.o.lt (fun e=>by
      have:=Mc d7.o _ e.symm;have:=g9.o;omega)).trans eB.o)
     have gO:=o (show dN (cL.setCell ⟨w.heap.size,4,aj⟩ (D t1 T t2)) w.heap.size #[U ah b.me,D b2 b7 s1,D b4 b8 s2,D b5 b9 s3,D t1 T t2,D b6 bA s5] 30 by simpa using eD (k:=4) cX (D t1 T t2));have gE:=o (d3.o.but (eH cL w.heap.size 4 (D t1 T t2)) cX);have gC:=o ((eH cL w.heap.size 4 (D t1 T t2)).box g5 (by omega));have gA:=o ((eH cL w.heap.size 4 (D t1 T t2)).box g4.o (by omega));have gI:=o (show Below w.heap.size w (cL.setCell ⟨w.heap.size,4,aj⟩ (D t1 T t2)) from (g2.o.trans (eK.mono (by have:=g9.o; omega))).setCell (p:=⟨w.heap.size,4,aj⟩) (aT _) _);have j:=cX.cell 4;have d5:=cX.fr 4;have cU:=cX.lt;simp only [Q,J,O] at j;clear eM eK eL cY cX g4 g5 d3 bE g0 bI g1 eE g3 dT eB eC fY a1 g2 d7 dZ g6 d4 g8 eJ;go_upto_region 10 with fail;clear j d5 cU;generalize cL.setCell ⟨w.heap.size,4,aj⟩ (D t1 T t2)=hA at *;have bO:=gO.o;have gS:=gA.o;have N:=gC.o;obtain⟨a6,a7,aE,b1,j,bP⟩:=bO.fA;have d6:=gS.cell 6;simp only [Q,J,O] at d6;obtain⟨z0,d8,d9,z3,z4,z5⟩:=N.fA;obtain⟨f5,f6,f7,f8,f9,fL⟩:=N.kg;have fN:=N.lt;have bE:=o ((dM N (U ah b.me) (D b2 b7 s1) (D b4 b8 s2) (D b5 b9 s3) (D t1 T t2) (D b6 bA s5)).on (aJ _ _).drew);have bI:=o ((gE.o.but (eP hA (w.heap.size+1+1) (U ah b.me) (D b2 b7 s1) (D b4 b8 s2) (D b5 b9 s3) (D t1 T t2) (D b6 bA s5)) N).grow (aJ _ _).drew);have a1:=o (dJ (b:=w.heap.size+1+1) gI.o (by omega) (U ah b.me) (D b2 b7 s1) (D b4 b8 s2) (D b5 b9 s3) (D t1 T t2) (D b6 bA s5)).drew;clear bO gS N gO gE gA gC gI;go_wp2
     go_region
     all_goals simp only [Exit.then]
     all_goals apply_assumption
     all_goals
      clear a6 a7 aE b1 j bP;clear z0 d8 d9 z3 z4 z5 f5 f6 f7 f8 f9 fL fN;clear d6;unfold gH at bE bI a1;generalize (((((((hA).setCell ⟨w.heap.size+1+1,0,aj⟩ (U ah b.me)).setCell ⟨w.heap.size+1+1,1,aj⟩ (D b2 b7 s1)).setCell ⟨w.heap.size+1+1,2,aj⟩ (D b4 b8 s2)).setCell ⟨w.heap.size+1+1,3,aj⟩ (D b5 b9 s3)).setCell ⟨w.heap.size+1+1,4,aj⟩ (D t1 T t2)).setCell ⟨w.heap.size+1+1,5,aj⟩ (D b6 bA s5)).drew=l3 at *;obtain⟨v0,e3,e4,v3,v4,v5⟩:=bE.o.fA;go_wp2;refine aB (v:=.tuple #[bg #[U ah b.me,D b2 b7 s1,D b4 b8 s2,D b5 b9 s3,D t1 T t2,D b6 bA s5],ak (!cv)]) (by simp [results,aG,go_sem,v0,e3,e4,v3,v4,v5]) rfl ?_;rw [e0.o];exact⟨⟨(b2,b7,s1),(b4,b8,s2),(b5,b9,s3),(t1,T,t2),(b6,bA,s5),rfl,bI.o.vbr,fun _=>⟨_,bI.o.near⟩,fun _=>⟨_,_,bI.o⟩,aU ⟨_,_,hR.o,bI.o⟩⟩,a1.o⟩
    ·have e0:=o (show iL b e=(b,au) from by
      rw [<- xO eI.o];unfold OX;obtain⟨a,d2,cV⟩:∃ a,gY b.dQ e.tree=aA a/\e2=a.par:=by
       rw [d1.o];rcases g7.o with⟨h,_⟩|⟨_,h⟩
       ·cases h
       ·exact h
      rw [d2];simp only;rw [if_neg (by rw [d1.o,f2.o,hF.o]; simp),if_pos ?_];refine⟨?_,?_⟩
      ·rw [iG.o,<- cV];have:=iS.o;simpa using this
      ·rw [<- cV];have:=hE.o;simpa using this)
     have bO:=cM.o;have N:=cN.o;obtain⟨a6,a7,aE,b1,j,bP⟩:=bO.fA;obtain⟨z0,d8,d9,z3,z4,z5⟩:=N.fA;obtain⟨f5,f6,f7,f8,f9,fL⟩:=N.kg;have fN:=N.lt;have bE:=o (dM N (U ah b.me) (D no cD cC) (D c9 c8 c7) (D cI cH sc) (D c6 bX bW) (D cG cA cF));have a1:=o (dJ (b:=w.heap.size+1+1) bB.o (by omega) (U ah b.me) (D no cD cC) (D c9 c8 c7) (D cI cH sc) (D c6 bX bW) (D cG cA cF));clear bO N;go_wp2_with fail;clear z0 d8 d9 z3 z4 z5;obtain⟨v0,e3,e4,v3,v4,v5⟩:=bE.o.fA;refine aB (v:=.tuple #[bg #[U ah b.me,D no cD cC,D c9 c8 c7,D cI cH sc,D c6 bX bW,D cG cA cF],ak au]) (by simp [results,aG,go_sem,v0,e3,e4,v3,v4,v5]) rfl ?_;rw [e0.o];exact⟨⟨(no,cD,cC),(c9,c8,c7),(cI,cH,sc),(c6,bX,bW),(cG,cA,cF),rfl,f4.o.on a1.o,fun h=>h.on a1.o,fun h=>(h.resolve_right (by simp)).on a1.o,aZ rfl⟩,a1.o⟩
   ·cases jD
    all_goals
     have a7:=bC.o.cell 1;have a6:=bC.o.cell 0;have aE:=bC.o.cell 2;have b1:=bC.o.cell 3;have j:=bC.o.cell 4;have cT:=bC.o.cell 6;simp only [Q,J,O] at a6 a7 aE b1 j cT;have hP:=o (show fO cJ (D fX fW fV) e.p from (e6.o.2.2.2.2).on bB.o);have hR:=o (show w.heap.size<=cJ.heap.size from bB.o.size);have d3:=o (Lg (u,F,G,H,(fX,fW,fV),M,cW) e.p cJ hP.o (iF hO.o));go_wp2_with fail;refine d3.o.mono ?_;rintro kB eN ⟨⟨⟨a8,u2,u3⟩,rfl,h6⟩,I⟩;clear a6 a7 aE b1 j cT;clear a3 e1;have bT:=bC.o.on I;obtain⟨a6,a7,aE,b1,j,bP,cT⟩:=bT.oz;obtain⟨eR,eS,eV,eW,d5,f0,f1⟩:=bT.fs7;have cU:=bT.lt;have S:=NS eN (w.heap.size+1) (U ah u) (U ah F) (U ah G) (U ah H) (D a8 u2 u3) (U ah M) (ak cW);have bM:=o (Fq bT (U ah u) (U ah F) (U ah G) (U ah H) (D a8 u2 u3) (U ah M) (ak cW));have dA:=o (S.box (cM.o.on I) (by omega));have dE:=o (S.box (cN.o.on I) (by omega));have dC:=o (S.own h6 bT (by decide));have d0:=o (yQ (b:=w.heap.size+1) (bB.o.trans (I.mono bB.o.size)) (by omega) (U ah u) (U ah F) (U ah G) (U ah H) (D a8 u2 u3) (U ah M) (ak cW));have dS:=o (show cJ.heap.size<=(NP eN (w.heap.size+1) (U ah u) (U ah F) (U ah G) (U ah H) (D a8 u2 u3) (U ah M) (ak cW)).heap.size by have:=I.size; simp; omega);have g9:=o (show w.heap.size+1+1<cJ.heap.size from cN.o.lt);clear bT h6 I d3 cM bC cN bB S;go_upto_region 7 with fail;clear a6 a7 aE b1 j bP cT eR eS eV eW d5 f0 f1 cU;unfold NP at bM dA dE dC d0 dS;generalize (((((((eN).setCell ⟨w.heap.size+1,0,aj⟩ (U ah u)).setCell ⟨w.heap.size+1,1,aj⟩ (U ah F)).setCell ⟨w.heap.size+1,2,aj⟩ (U ah G)).setCell ⟨w.heap.size+1,3,aj⟩ (U ah H)).setCell ⟨w.heap.size+1,4,aj⟩ (D a8 u2 u3)).setCell ⟨w.heap.size+1,5,aj⟩ (U ah M)).setCell ⟨w.heap.size+1,6,aj⟩ (ak cW)=fS at *;have cT:=bM.o.cell 6;have f1:=bM.o.fr 6;have cU:=bM.o.lt;simp only [Q,J,O] at cT;have S:=eH fS (w.heap.size+1) 6 (ak au);have bC:=o (show dN (fS.setCell ⟨w.heap.size+1,6,aj⟩ (ak au)) (w.heap.size+1) #[U ah u,U ah F,U ah G,U ah H,D a8 u2 u3,U ah M,ak au] 67 by simpa using eD (k:=6) bM.o (ak au));have cM:=o (S.box dA.o (by omega));have cN:=o (S.box dE.o (by omega));have gR:=o (S.own dC.o bM.o (by decide));have bB:=o (d0.o.setCell (p:=⟨w.heap.size+1,6,aj⟩) (by simp) (ak au));have h0:=o (show cJ.heap.size<=(fS.setCell ⟨w.heap.size+1,6,aj⟩ (ak au)).heap.size by have:=dS.o; simp; omega);clear S dA bM dE dC d0 dS;go_upto_region 8 with fail;clear cT f1 cU;generalize fS.setCell ⟨w.heap.size+1,6,aj⟩ (ak au)=h9 at *;have e0:=o (show iL b e=({ b with ent:=gL b.ent k { e with up:=au } },au) from by
      rw [<- xO eI.o];unfold OX;obtain⟨a,d2,cV⟩:∃ a,gY b.dQ e.tree=aA a/\e2=a.par:=by
       rw [d1.o];rcases g7.o with⟨h,_⟩|⟨_,h⟩
       ·cases h
       ·exact h
      rw [d2];simp only;rw [if_neg (by rw [d1.o,f2.o,hF.o]; simp),if_neg ?_,show eU (b.ent.map fE) (e.tree,e.sub)=k by rw [d1.o,f2.o]; exact j0.o,<- cV,hE.o]
      ·rfl
      ·rintro⟨_,g⟩;rw [<- cV] at g;have:=hE.o;simp at this;exact g this)
     have bO:=cM.o;obtain⟨a6,a7,aE,b1,j,bP⟩:=bO.fA;clear bO;go_wp2_with fail;refine (qL b (no,cD,cC) (c9,c8,c7) (cI,cH,sc) (c6,bX,bW) (cG,cA,cF) w h9 bB.o f4.o f3.o j1.o).mono ?_;rintro kE eQ ⟨⟨⟨b2,b7,s1⟩,⟨b4,b8,s2⟩,⟨b5,b9,s3⟩,⟨cR,cS,s4⟩,⟨b6,bA,s5⟩,rfl,h1⟩,cQ⟩;clear a6 a7 aE b1 j bP;have cP:=cM.o.on cQ;have bT:=o (bC.o.on cQ);have V3:=o (cN.o.on cQ);obtain⟨a6,a7,aE,b1,j,bP⟩:=cP.fA;obtain⟨eR,eS,eV,eW,d5,f0⟩:=cP.kg;have cU:=cP.lt;have S:=eP eQ w.heap.size (U ah b.me) (D b2 b7 s1) (D b4 b8 s2) (D b5 b9 s3) (D cR cS s4) (D b6 bA s5);have bE:=o (dM cP (U ah b.me) (D b2 b7 s1) (D b4 b8 s2) (D b5 b9 s3) (D cR cS s4) (D b6 bA s5));have bI:=o (Sb.Cp.less (h1.but S cP) (show cJ.heap.size<=h9.heap.size from h0.o));have eE:=o (S.own (aF gR.o cQ) cP (by decide));have a1:=o (dJ (b:=w.heap.size) (bB.o.trans (cQ.mono bB.o.size)) (aT _) (U ah b.me) (D b2 b7 s1) (D b4 b8 s2) (D b5 b9 s3) (D cR cS s4) (D b6 bA s5));have dT:=o (S.box bT.o (by omega));have eC:=o (S.box V3.o (by omega));have eJ:=o (show cJ.heap.size<=(gH eQ w.heap.size (U ah b.me) (D b2 b7 s1) (D b4 b8 s2) (D b5 b9 s3) (D cR cS s4) (D b6 bA s5)).heap.size by have:=cQ.size; have:=h0.o; simp; omega);clear cP bT V3 h1 cQ S cM bC cN gR bB;go_upto_region 9 with fail;clear a6 a7 aE b1 j bP eR eS eV eW d5 f0 cU;unfold gH at bE bI a1 dT eC eJ eE;generalize ((((((eQ).setCell ⟨w.heap.size,0,aj⟩ (U ah b.me)).setCell ⟨w.heap.size,1,aj⟩ (D b2 b7 s1)).setCell ⟨w.heap.size,2,aj⟩ (D b4 b8 s2)).setCell ⟨w.heap.size,3,aj⟩ (D b5 b9 s3)).setCell ⟨w.heap.size,4,aj⟩ (D cR cS s4)).setCell ⟨w.heap.size,5,aj⟩ (D b6 bA s5)=e5 at *;obtain⟨le,h4,h5⟩:=bI.o.ent;have d7:=o h4;have dZ:=o h5;clear h4 h5;have a2:=fP e5 (aK #[U ah u,U ah F,U ah G,U ah H,D a8 u2 u3,U ah M,ak au] 67);have bx:=dR e5 #[U ah u,U ah F,U ah G,U ah H,D a8 u2 u3,U ah M,ak au] 67;have g8:=o (Cx cJ.heap.size (D cR cS s4) le k (u,F,G,H,(a8,u2,u3),M,au) e5.heap.size _ (aF d7.o a2) bx (fun e=>by
      obtain⟨d,hW⟩:=jQ d7.o _ e;have:=hW.lt;omega) (by rw [dZ.o.len]; exact j2.o) (by rw [dZ.o.len]; exact f3.o.ent) (aR eJ.o a2.size))
     have g0:=o (bE.o.on a2);have eB:=o (dT.o.on a2);have fY:=o (eC.o.on a2);have g3:=o (aF eE.o a2);have g1:=o (bI.o.grow a2);have g2:=o (a1.o.trans (a2.mono a1.o.size));have g6:=o (dZ.o.mono fun _ _ q=>q.grow a2);have d4:=o (jQ (aF d7.o a2));have j:=bE.o.cell 4;simp only [Q,J,O] at j;obtain⟨e7,e8,e9,eA,h2,e1,d6⟩:=dT.o.oz;clear a2 bx;go_wp2_with fail;refine g8.o.mono ?_;rintro kK cL ⟨l2,rfl,eM,eK,eL⟩;clear j;clear e7 e8 e9 eA h2 e1 d6;generalize e5.alloc (aK #[U ah u,U ah F,U ah G,U ah H,D a8 u2 u3,U ah M,ak au] 67)=i7 at *;obtain⟨t1,t2,i0⟩:=(Row.dL eM).len;subst i0;generalize (le.take k++(u,F,G,H,(a8,u2,u3),M,au)::le.drop k).length=T at *;have cY:Off (D cR cS s4).ownBlock i7 cL:=⟨eL,eK.size⟩;have d3:=o (g1.o.adL (ev':=(t1,T,t2)) (el:=gL b.ent k { e with up:=au }) cY ⟨gL le k (u,F,G,H,(a8,u2,u3),M,au),by unfold gL; rw [ay]; exact eM,zH (g6.o.mono fun _ _ q=>q.off cY d4.o (by decide)) k ⟨e6.o.1,e6.o.2.1,e6.o.2.2.1,rfl,aU (cY.own g3.o d4.o (by decide))⟩⟩);have cX:=cY.box g0.o d4.o (by decide);have g5:=cY.box fY.o d4.o (by decide);have g4:=o (show dN cL (w.heap.size+1) #[U ah u,U ah F,U ah G,U ah H,D a8 u2 u3,U ah M,ak au] 67 from (eL _ eB.o.lt (fun e=>by
      have:=Mc d7.o _ e.symm;have:=g9.o;omega)).trans eB.o)
     have gO:=o (show dN (cL.setCell ⟨w.heap.size,4,aj⟩ (D t1 T t2)) w.heap.size #[U ah b.me,D b2 b7 s1,D b4 b8 s2,D b5 b9 s3,D t1 T t2,D b6 bA s5] 30 by simpa using eD (k:=4) cX (D t1 T t2));have gE:=o (d3.o.but (eH cL w.heap.size 4 (D t1 T t2)) cX);have gC:=o ((eH cL w.heap.size 4 (D t1 T t2)).box g5 (by omega));have gA:=o ((eH cL w.heap.size 4 (D t1 T t2)).box g4.o (by omega));have gI:=o (show Below w.heap.size w (cL.setCell ⟨w.heap.size,4,aj⟩ (D t1 T t2)) from (g2.o.trans (eK.mono (by have:=g9.o; omega))).setCell (p:=⟨w.heap.size,4,aj⟩) (aT _) _);have j:=cX.cell 4;have d5:=cX.fr 4;have cU:=cX.lt;simp only [Q,J,O] at j;clear eM eK eL cY cX g4 g5 d3 bE g0 bI g1 eE g3 dT eB eC fY a1 g2 d7 dZ g6 d4 g8 eJ;go_upto_region 10 with fail;clear j d5 cU;generalize cL.setCell ⟨w.heap.size,4,aj⟩ (D t1 T t2)=hA at *;have bO:=gO.o;have gS:=gA.o;have N:=gC.o;obtain⟨a6,a7,aE,b1,j,bP⟩:=bO.fA;have d6:=gS.cell 6;simp only [Q,J,O] at d6;obtain⟨z0,d8,d9,z3,z4,z5⟩:=N.fA;obtain⟨f5,f6,f7,f8,f9,fL⟩:=N.kg;have fN:=N.lt;have bE:=o ((dM N (U ah b.me) (D b2 b7 s1) (D b4 b8 s2) (D b5 b9 s3) (D t1 T t2) (D b6 bA s5)).on (aJ _ _).drew);have bI:=o ((gE.o.but (eP hA (w.heap.size+1+1) (U ah b.me) (D b2 b7 s1) (D b4 b8 s2) (D b5 b9 s3) (D t1 T t2) (D b6 bA s5)) N).grow (aJ _ _).drew);have a1:=o (dJ (b:=w.heap.size+1+1) gI.o (by omega) (U ah b.me) (D b2 b7 s1) (D b4 b8 s2) (D b5 b9 s3) (D t1 T t2) (D b6 bA s5)).drew;clear bO gS N gO gE gA gC gI;go_wp2
     go_region
     all_goals simp only [Exit.then]
     all_goals apply_assumption
     all_goals
      clear a6 a7 aE b1 j bP;clear z0 d8 d9 z3 z4 z5 f5 f6 f7 f8 f9 fL fN;clear d6;unfold gH at bE bI a1;generalize (((((((hA).setCell ⟨w.heap.size+1+1,0,aj⟩ (U ah b.me)).setCell ⟨w.heap.size+1+1,1,aj⟩ (D b2 b7 s1)).setCell ⟨w.heap.size+1+1,2,aj⟩ (D b4 b8 s2)).setCell ⟨w.heap.size+1+1,3,aj⟩ (D b5 b9 s3)).setCell ⟨w.heap.size+1+1,4,aj⟩ (D t1 T t2)).setCell ⟨w.heap.size+1+1,5,aj⟩ (D b6 bA s5)).drew=l3 at *;obtain⟨v0,e3,e4,v3,v4,v5⟩:=bE.o.fA;go_wp2;refine aB (v:=.tuple #[bg #[U ah b.me,D b2 b7 s1,D b4 b8 s2,D b5 b9 s3,D t1 T t2,D b6 bA s5],ak au]) (by simp [results,aG,go_sem,v0,e3,e4,v3,v4,v5]) rfl ?_;rw [e0.o];exact⟨⟨(b2,b7,s1),(b4,b8,s2),(b5,b9,s3),(t1,T,t2),(b6,bA,s5),rfl,bI.o.vbr,fun _=>⟨_,bI.o.near⟩,fun _=>⟨_,_,bI.o⟩,aU ⟨_,_,hR.o,bI.o⟩⟩,a1.o⟩
  ·have e0:=o (show iL b e=(b,au) from by
    rw [<- xO eI.o];unfold OX;obtain⟨a,d2,cV⟩:∃ a,gY b.dQ e.tree=aA a/\e2=a.par:=by
     rw [d1.o];rcases g7.o with⟨h,_⟩|⟨_,h⟩
     ·cases h
     ·exact h
    rw [d2];simp only;rw [if_pos (by rw [d1.o,f2.o,hF.o])])
   have bO:=cM.o;have N:=cN.o;obtain⟨a6,a7,aE,b1,j,bP⟩:=bO.fA;obtain⟨z0,d8,d9,z3,z4,z5⟩:=N.fA;obtain⟨f5,f6,f7,f8,f9,fL⟩:=N.kg;have fN:=N.lt;have bE:=o (dM N (U ah b.me) (D no cD cC) (D c9 c8 c7) (D cI cH sc) (D c6 bX bW) (D cG cA cF));have a1:=o (dJ (b:=w.heap.size+1+1) bB.o (by omega) (U ah b.me) (D no cD cC) (D c9 c8 c7) (D cI cH sc) (D c6 bX bW) (D cG cA cF));clear bO N;go_wp2_with fail;clear z0 d8 d9 z3 z4 z5;obtain⟨v0,e3,e4,v3,v4,v5⟩:=bE.o.fA;refine aB (v:=.tuple #[bg #[U ah b.me,D no cD cC,D c9 c8 c7,D cI cH sc,D c6 bX bW,D cG cA cF],ak au]) (by simp [results,aG,go_sem,v0,e3,e4,v3,v4,v5]) rfl ?_;rw [e0.o];exact⟨⟨(no,cD,cC),(c9,c8,c7),(cI,cH,sc),(c6,bX,bW),(cG,cA,cF),rfl,f4.o.on a1.o,fun h=>h.on a1.o,fun h=>(h.resolve_right (by simp)).on a1.o,aZ rfl⟩,a1.o⟩
theorem aaI (b:Br) (e:En) (j av u q r:Sl) (x:iY) (w:aC) (h:iT w b j av u q r) (F:jF w x e) (G:Am b) (M:rR b) (N:kD b.ent) (I:∀ e∈b.ent,dX e.p) (H:dX e.p) :
  bD aQ 114 #[mg b.me j av u q r,qd x] w (zK w (mo w j b.near) (mq w b j av u q r) (iL b e)) :=
 (WK b e j av u q r x w h F G M N I H).mono fun _ _ h=>h.two
theorem uT {α:Type} (l:List α) (k:Nat):(cutAt l k).Sublist l:=by
 unfold cutAt
 conv=>rhs; rw [<- aI k l]
 exact (List.Sublist.refl _).append (List.drop_sublist_drop_left l (Nat.le_succ k))
theorem qE {α:Type} {l:List α} {k:Nat} {x:α} (h:x∈cutAt l k):x∈l:=(uT l k).subset h
def JV (b:Br) (t s:fB) (f:Int):Br×List En×Bool:=match Ol b.ent t s with
 | none=>(b,[],au)
 | some e=>if e.from_≠f then (b,[],au) else if e.up=au then ({ b with ent:=cutAt b.ent (eU (b.ent.map fE) (t,s)) },[],au) else
  ({ b with ent:=(cutAt b.ent (eU (b.ent.map fE) (t,s))).take (jC (cutAt b.ent (eU (b.ent.map fE) (t,s))) t)++(iO (qb (cutAt b.ent (eU (b.ent.map fE) (t,s))) t) (qb (cutAt b.ent (eU (b.ent.map fE) (t,s))) t).length).1++(cutAt b.ent (eU (b.ent.map fE) (t,s))).drop (jC (cutAt b.ent (eU (b.ent.map fE) (t,s))) t+(qb (cutAt b.ent (eU (b.ent.map fE) (t,s))) t).length) },(iO (qb (cutAt b.ent (eU (b.ent.map fE) (t,s))) t) (qb (cutAt b.ent (eU (b.ent.map fE) (t,s))) t).length).2,aM)
theorem aee {m:List En} (G:kD m) (t:fB):jk t m m.length=(m.take (jC m t)++(iO (qb m t) (qb m t).length).1++m.drop (jC m t+(qb m t).length),(iO (qb m t) (qb m t).length).2):=by
 obtain⟨c,j,q,r,u,F⟩:=Og G t;have h:=Q9 r u F;rw [<- j] at h;rw [h];have e:m.drop (jC m t+(qb m t).length)=c:=by
  conv=>lhs; arg 2; rw [j]
  rw [aY (by rw [List.length_append,q])]
 rw [e]
theorem zW {b:Br} (j:kD b.ent) {t s:fB} {f:Int}:JV b t s f=takeB b t s f:=by
 unfold JV takeB;have r:=Fx j t s;rw [r];cases q:nK b.ent t s with
 | false =>
  rw [Om q];simp only [Bool.false_eq_true,if_false];cases b.ent[(-1:Int).toNat]? <;> rfl
 | true =>
  obtain⟨e,u,H,F⟩:=JF q;rw [F];simp only [if_true];rw [Int.toNat_natCast,u];simp only;rw [if_neg (show ¬ ((eU (b.ent.map fE) (t,s):Int)=-1) by omega)];have G:kD (cutAt b.ent (eU (b.ent.map fE) (t,s))):=j.sublist (uT _ _);generalize cutAt b.ent (eU (b.ent.map fE) (t,s))=m at *;rw [aee G]
theorem uN.less {w0 wr:aC} {B B':Nat} {x:iY} {e:En} (h:uN w0 B wr x e) (hB:B'<=B):uN w0 B' wr x e:=⟨h.1,h.2.1,h.2.2.1,h.2.2.2.1,h.2.2.2.2.imp id fun h=>dO h hB⟩
def ajd (w:aC) (P R:Prop) (j:Br×List En×Bool) (e:Ending) (w':aC):Prop:=(∃ (r av G u F H:Sl) (q:List iY),e=.returned (.tuple #[mg j.1.me r av G u F,eu H,ak j.2.2])/\iT w' j.1 r av G u F/\mF w' (eu H) q/\eY (jF w') q j.2.1/\(P->mo w' r j.1.near)/\(R\/j.2.2=aM->mq w' j.1 r av G u F)/\jJ w' w.heap.size (eu H) q/\∃ V:aC,eY (uN (vw V) w.heap.size w') q j.2.1)/\Below w.heap.size w w'
theorem WM (b:Br) (dC av e7 e2 e6:Sl) (t s:fB) (f:Int) (w:aC) (h:iT w b dC av e7 e2 e6) (eS:Am b) (hF:rR b) (f4:kD b.ent) (hE:∀ e∈b.ent,dX e.p) :
  bD aQ 117 #[mg b.me dC av e7 e2 e6,nP t,nP s,U ah f] w (ajd w (mo w dC b.near) (mq w b dC av e7 e2 e6) (takeB b t s f)):=by
 obtain⟨no,bC,bB⟩:=dC;obtain⟨b8,b7,b6⟩:=av;obtain⟨bO,bM,sc⟩:=e7;obtain⟨b5,aE,b4⟩:=e2;obtain⟨bI,b9,bE⟩:=e6;obtain⟨c,d⟩:=t;obtain⟨bW,bX⟩:=s;obtain⟨e5,X,Y,Z,V⟩:=zM w #[U ah b.me,D no bC bB,D b8 b7 b6,D bO bM sc,D b5 aE b4,D bI b9 bE] #[U ah c,U ah d] #[U ah bW,U ah bX] #[U ah 0,D aj 0 0,D aj 0 0,D aj 0 0,D aj 0 0,D aj 0 0] 30 23 23 30;have fV:=o e5;have h1:=o X;have h2:=o Y;have h3:=o V;have eK:=o h;have e0:=o eS;have i1:=o hF;have cU:=o f4;have i6:=o hE;have G:=X.cell 4;simp only [Q,J,O] at G;obtain⟨e9,dZ⟩:=Y.cs2;obtain⟨z0,bP⟩:=Z.cs2;obtain⟨k0,f5,f6⟩:=h.ent;have gI:=o (f5.on e5);have eM:=o (f6.mono fun _ _ q=>q.on e5);have eN:=o (JE (b5,aE,b4) k0 b.ent (c,d) (bW,bX) _ gI.o eM.o f4 (by rw [f6.len]; have:=eS.ent; omega));have hD:=lT f5;have g8:=o hD;obtain⟨k,eW⟩:∃ k,eU (b.ent.map fE) ((c,d),(bW,bX))=k:=⟨_,rfl⟩;obtain⟨k4,e4⟩:∃ k,nK b.ent (c,d) (bW,bX)=k:=⟨_,rfl⟩;rw [eW,e4] at eN;have eL:=o eW;clear e5 X Y Z V h eS hF f4 hE f5 f6 hD eW;go_enter Tryz.func117,Tryz.ntmps117;go_wp2_with fail;generalize (((w.alloc (aK #[U ah b.me,D no bC bB,D b8 b7 b6,D bO bM sc,D b5 aE b4,D bI b9 bE] 30)).alloc (aK #[U ah c,U ah d] 23)).alloc (aK #[U ah bW,U ah bX] 23)).alloc (aK #[U ah 0,D aj 0 0,D aj 0 0,D aj 0 0,D aj 0 0,D aj 0 0] 30)=W at *;refine eN.o.mono ?_;rintro k8 w1 ⟨rfl,I⟩;have cT:=o (fV.o.trans (I.mono fV.o.size));have cX:=o (h1.o.on I);have gS:=o (h2.o.on I);have cY:=o (h3.o.on I);have g6:=o I;clear G e9 dZ z0 bP eN I h1 h2 h3;cases k4
 ·have c9:=o (show takeB b (c,d) (bW,bX) f=(b,[],au) from by
   rw [<- zW cU.o];unfold JV;rw [Om e4])
  have cW:=cX.o;have r:=cY.o;obtain⟨f9,fL,fN,fR,G,fS⟩:=cW.fA;obtain⟨z0,bP,c6,z3,z4,z5⟩:=r.fA;obtain⟨d0,d1,d2,d3,d4,d5⟩:=r.kg;have d6:=r.lt;have b1:=o (dM r (U ah b.me) (D no bC bB) (D b8 b7 b6) (D bO bM sc) (D b5 aE b4) (D bI b9 bE));have u:=o (dJ (b:=w.heap.size+1+1+1) cT.o (by omega) (U ah b.me) (D no bC bB) (D b8 b7 b6) (D bO bM sc) (D b5 aE b4) (D bI b9 bE));clear cW r;go_wp2_with fail;clear z0 bP c6 z3 z4 z5;obtain⟨v0,cD,cF,v3,v4,v5⟩:=b1.o.fA;refine aB (v:=.tuple #[bg #[U ah b.me,D no bC bB,D b8 b7 b6,D bO bM sc,D b5 aE b4,D bI b9 bE],D aj 0 0,ak au]) (by simp [results,aN,go_sem,v0,cD,cF,v3,v4,v5]) rfl ?_;rw [c9.o];exact⟨⟨(no,bC,bB),(b8,b7,b6),(bO,bM,sc),(b5,aE,b4),(bI,b9,bE),(aj,0,0),[],rfl,eK.o.on u.o,jK _,.nil,fun h=>h.on u.o,fun h=>(h.resolve_right (by simp)).on u.o,iR _ _,w,.nil⟩,u.o⟩
 ·obtain⟨e,cL,j8,h9⟩:=JF e4;rw [eL.o] at cL;have j9:=(aD.1 cL).1;have kQ:k<aE:=by rw [<- g8.o,eM.o.len]; exact j9
  obtain⟨y,hK,f7⟩:=eM.o.at k e cL;obtain⟨p,jY,hR⟩:=Qj gI.o rfl g8.o hK;obtain⟨hL,hM,hN,i3,hO,hP,hQ⟩:=hR w1 g6.o;obtain⟨dZ,l0,l1,l2,⟨l5,l4,l3⟩,eA,hW⟩:=y;simp only at hL hM hN i3 hO hP hQ;have eJ:=o h9;have eE:=o (show e.from_=eA from f7.2.2.1.symm);have EU:=o (show e.up=hW from f7.2.2.2.1.symm);have G:=cX.o.cell 4;simp only [Q,J,O] at G;clear hR hK f7 cL j8 h9 e4 hL hM hN i3 hO;by_cases cR:eA=f
  ·have cP:(eA != f)=au:=by simp [cR]
   have e1:=o cR;have gR:=cX.o;clear cR G;obtain⟨f9,fL,fN,fR,G,fS⟩:=gR.fA;clear gR;go_wp2_with fail;refine (qL b (no,bC,bB) (b8,b7,b6) (bO,bM,sc) (b5,aE,b4) (bI,b9,bE) w w1 cT.o eK.o e0.o i1.o).mono ?_;rintro k9 hT ⟨⟨⟨N,a2,s1⟩,⟨S,a6,s2⟩,⟨T,a7,s3⟩,⟨dE,F,s4⟩,⟨a1,a8,s5⟩,rfl,h4⟩,e3⟩;clear f9 fL fN fR G fS;clear jY hP hQ cP;have cJ:=cY.o.on e3;obtain⟨z0,bP,c6,z3,z4,z5⟩:=cJ.fA;obtain⟨d0,d1,d2,d3,d4,d5⟩:=cJ.kg;have d6:=cJ.lt;have M:=eP hT (w.heap.size+1+1+1) (U ah b.me) (D N a2 s1) (D S a6 s2) (D T a7 s3) (D dE F s4) (D a1 a8 s5);have b1:=o (dM cJ (U ah b.me) (D N a2 s1) (D S a6 s2) (D T a7 s3) (D dE F s4) (D a1 a8 s5));have b2:=o (h4.but M cJ);have u:=o (dJ (b:=w.heap.size+1+1+1) (cT.o.trans (e3.mono cT.o.size)) (by omega) (U ah b.me) (D N a2 s1) (D S a6 s2) (D T a7 s3) (D dE F s4) (D a1 a8 s5));have eI:=o (M.box (gS.o.on e3) (by omega));have cV:=o (show w.heap.size+1+1+1<w1.heap.size from cY.o.lt);clear cJ M h4 e3 cX gS cY g6;go_upto_region 6 with fail;clear z0 bP c6 z3 z4 z5 d0 d1 d2 d3 d4 d5 d6;unfold gH at b1 b2 u eI;generalize ((((((hT).setCell ⟨w.heap.size+1+1+1,0,aj⟩ (U ah b.me)).setCell ⟨w.heap.size+1+1+1,1,aj⟩ (D N a2 s1)).setCell ⟨w.heap.size+1+1+1,2,aj⟩ (D S a6 s2)).setCell ⟨w.heap.size+1+1+1,3,aj⟩ (D T a7 s3)).setCell ⟨w.heap.size+1+1+1,4,aj⟩ (D dE F s4)).setCell ⟨w.heap.size+1+1+1,5,aj⟩ (D a1 a8 s5)=hU at *;obtain⟨le,d8,f0⟩:=b2.o.ent;have jI:le.length=F:=lT (Row.dL d8);have f1:le.length=b.ent.length:=f0.len;obtain⟨g,rfl,h7⟩:∃ g,dE=aA ⟨g,0,aj⟩/\w1.heap.size<=g:=vS d8 (show 0<F by omega);have k6:=o (show k<F by omega);have g0:=o (adV w1.heap.size g F s4 k le hU d8 (by omega) (by have:=e0.o.ent; omega));have hV:=o d8;have g7:=o f0;have cH:=o h7;have i4:=o (show F<=900 by have:=e0.o.ent; omega);have G:=b1.o.cell 4;simp only [Q,J,O] at G;have jV:IntKind.i64.wrap ((k:Int)+1)=(k:Int)+1:=IntWalk.i64_in _ (by have:=e0.o.ent; omega);clear d8 f0 jI f1 h7;go_wp2_with fail;refine g0.o.mono ?_;rintro kA dS ⟨rfl,f3,bA,d9⟩;have cQ:Off (eu (aA ⟨g,0,aj⟩,F,s4)).ownBlock hU dS:=⟨fun j eV cP=>bA.1 j eV fun e=>cP (by rw [e]; rfl),bA.2⟩;have h0:=jQ hV.o;have fY:=o (b2.o.adL (ev':=(aA ⟨g,0,aj⟩,F-1,s4)) (el:=cutAt b.ent k) cQ ⟨cutAt le k,f3,(fun {h}=>((h:eY _ le b.ent).take k).append (h.drop (k+1))) (h:=g7.o.mono fun _ _ q=>q.off cQ h0 (by decide))⟩);have bT:=bA.box b1.o (show w.heap.size+1+1+1≠g by have:=cH.o; have:=cV.o; omega);have g3:=bA.box eI.o (show w.heap.size+1≠g by have:=cH.o; have:=cV.o; omega);have fW:=d9 w.heap.size w (by have:=cH.o; have:=cV.o; omega) u.o;clear G jV;have G:=bT.cell 4;have i9:=bT.fr 4;have k5:=bT.lt;simp only [Q,J,O] at G;have M:=eH dS (w.heap.size+1+1+1) 4 (D (aA ⟨g,0,aj⟩) (F-1) s4);have c8:=o (fY.o.but M bT);have g4:=o (M.box g3 (by omega));have c7:=o (fW.setCell (p:=⟨w.heap.size+1+1+1,4,aj⟩) (show w.heap.size<=w.heap.size+1+1+1 by omega) (D (aA ⟨g,0,aj⟩) (F-1) s4));have cI:=o (show dN (dS.setCell ⟨w.heap.size+1+1+1,4,aj⟩ (D (aA ⟨g,0,aj⟩) (F-1) s4)) (w.heap.size+1+1+1) #[U ah b.me,D N a2 s1,D S a6 s2,D T a7 s3,D (aA ⟨g,0,aj⟩) (F-1) s4,D a1 a8 s5] 30 by simpa using eD (k:=4) bT (D (aA ⟨g,0,aj⟩) (F-1) s4));have iG:=o (show w1.heap.size<=(dS.setCell ⟨w.heap.size+1+1+1,4,aj⟩ (D (aA ⟨g,0,aj⟩) (F-1) s4)).heap.size by have:=bA.2; have h6:=u.o.size; obtain⟨cur,j7⟩:=jX f3; have:=j7.lt; have:=cH.o; simp; omega);clear f3 bA d9 cQ h0 fY bT g3 fW M b1 b2 u eI hV g7 g0 le;go_upto_region 7 with fail;clear G i9 k5;generalize dS.setCell ⟨w.heap.size+1+1+1,4,aj⟩ (D (aA ⟨g,0,aj⟩) (F-1) s4)=cG at *;obtain⟨H,f2⟩:∃ n,n=F-1:=⟨_,rfl⟩;rw [<- f2] at cI c8 ⊢;have i5:=o f2;clear f2;cases hW
   ·have c9:=o (show takeB b (c,d) (bW,bX) f=({ b with ent:=cutAt b.ent k },[],au) from by
     rw [<- zW cU.o];unfold JV;rw [eJ.o];simp only;rw [if_neg (by rw [eE.o]; simpa using e1.o),if_pos EU.o,eL.o])
    have bT:=o cI.o;have eC:=o c7.o;clear cI c7 iG;generalize cG=e8 at *;have r:=bT.o;obtain⟨z0,bP,c6,z3,z4,z5⟩:=r.fA;obtain⟨d0,d1,d2,d3,d4,d5⟩:=r.kg;have d6:=r.lt;have M:=eP e8 (w.heap.size+1+1+1) (U ah b.me) (D N a2 s1) (D S a6 s2) (D T a7 s3) (D (aA ⟨g,0,aj⟩) H s4) (D a1 a8 s5);have b1:=o (dM r (U ah b.me) (D N a2 s1) (D S a6 s2) (D T a7 s3) (D (aA ⟨g,0,aj⟩) H s4) (D a1 a8 s5));have b2:=o (c8.o.but M r);have u:=o (dJ (b:=w.heap.size+1+1+1) eC.o (by omega) (U ah b.me) (D N a2 s1) (D S a6 s2) (D T a7 s3) (D (aA ⟨g,0,aj⟩) H s4) (D a1 a8 s5));clear r M;go_wp2_with fail;clear z0 bP c6 z3 z4 z5;obtain⟨v0,cD,cF,v3,v4,v5⟩:=b1.o.fA;refine aB (v:=.tuple #[bg #[U ah b.me,D N a2 s1,D S a6 s2,D T a7 s3,D (aA ⟨g,0,aj⟩) H s4,D a1 a8 s5],D aj 0 0,ak au]) (by simp [results,aN,go_sem,v0,cD,cF,v3,v4,v5]) rfl ?_;rw [c9.o];exact⟨⟨(N,a2,s1),(S,a6,s2),(T,a7,s3),(aA ⟨g,0,aj⟩,H,s4),(a1,a8,s5),(aj,0,0),[],rfl,b2.o.vbr,jK _,.nil,fun _=>⟨_,b2.o.near⟩,fun _=>⟨_,_,b2.o⟩,iR _ _,w,.nil⟩,u.o⟩
   ·obtain⟨m,cA⟩:∃ m,cutAt b.ent k=m:=⟨_,rfl⟩;rw [cA] at c8;have i8:=o (show kD m by rw [<- cA]; exact cU.o.sublist (uT _ _));have i7:=o (show ∀ e∈m,dX e.p by rw [<- cA]; exact fun e cL=>i6.o e (qE cL));have c9:=o (show takeB b (c,d) (bW,bX) f=({ b with ent:=m.take (jC m (c,d))++(iO (qb m (c,d)) (qb m (c,d)).length).1++m.drop (jC m (c,d)+(qb m (c,d)).length) },(iO (qb m (c,d)) (qb m (c,d)).length).2,aM) from by
     rw [<- zW cU.o];unfold JV;rw [eJ.o];simp only;rw [if_neg (by rw [eE.o]; simpa using e1.o),if_neg (by rw [EU.o]; simp),eL.o,cA])
    have gE:=o (show m.length=H by rw [<- cA]; obtain⟨l,d7,h6⟩:=c8.o.ent; rw [cA,<- h6.len]; exact lT (Row.dL d7));clear cA;obtain⟨cC,cM,cN⟩:=c8.o.ent
    replace cN:eY (uN (vw w) w1.heap.size cG) cC m:=cN
    replace cM:jJ cG w1.heap.size (D (aA ⟨g,0,aj⟩) H s4) cC:=cM
    have hC:eY (jF cG) cC m:=cN.mono fun _ _ q=>Gc q (Fb c7.o);have hA:=Bj m (c,d);have j3:=i4.o;have jD:=i5.o;have f1:=gE.o;have jB:cC.length=m.length:=cN.len;have h8:H<=s4:=by
     rcases gD cM with⟨d7,_⟩|⟨j2,j1,cur,d7,_,_,kK,_⟩
     ·cases d7
     ·obtain⟨_,_,rfl⟩:g=j2/\H=cC.length/\s4=j1:=by simpa using d7
      omega
    have cS:=o (yX (aA ⟨g,0,aj⟩,H,s4) cC m (c,d) cG (Row.dL cM) hC i8.o (by omega));have h5:(m.drop (jC m (c,d))).take (qb m (c,d)).length=qb m (c,d):=by
     unfold qb
     conv=>lhs; arg 2; rw [<- List.takeWhile_append_dropWhile (p:=fun e:En=>decide (e.tree=(c,d))) (l:=m.drop (jC m (c,d)))]
     rw [List.take_left]
    have eQ:=o (fun (dT:aC) (I:Below cG.heap.size cG dT) (f8:OA) (k3:Nat) dA=>WJ (vw w) w1.heap.size g H s4 (jC m (c,d)) (qb m (c,d)).length f8 k3 cC m dT (Fb (c7.o.trans (I.mono c7.o.size))) (bf _) (aF cM I) (cN.mono fun _ _ q=>q.grow I) (by omega) (by omega) dA i7.o);rw [h5] at eQ;generalize j6:jC m (c,d)=eR at *;generalize j5:qb m (c,d)=k7 at *;have hZ:=o h8;have i0:=o hA;clear cM cN hC j3 jD f1 jB hA h5 j6 j5 h8;have G:=cI.o.cell 4;simp only [Q,J,O] at G;have dZ:=g4.o.cell 1;have e9:=g4.o.cell 0;simp only [Q,J,O] at e9 dZ;unfold cutV at cS;simp only at cS;obtain⟨f8,dA⟩:∃ x,(if s4=eR then (⟨g,0,aj⟩:Addr) else (⟨g,0,aj⟩:Addr).add (eR * 7))=x:=⟨_,rfl⟩;rw [dA] at cS;have i2:=o dA;clear dA;go_wp2_with fail;refine cS.o.mono ?_;rintro kB dT ⟨rfl,I⟩;have gO:=eQ.o dT I (aA f8) (s4-eR) (fun kO=>⟨by rw [<- i2.o,if_neg (by have:=hZ.o; have:=i0.o; have:=gE.o; omega),mO],rfl⟩);have hY:=o I;have fX:=o (c8.o.grow I);have g5:=o (cI.o.on I);have eB:=o (c7.o.trans (I.mono c7.o.size));clear G e9 dZ I cS eQ;go_wp2_with fail;refine gO.mono ?_;rintro kE e8 ⟨⟨gA,g9,hS⟩,rfl,j4⟩;obtain⟨⟨k1,hG,hH⟩,⟨k2,hI,hJ⟩,bA,d9⟩:=j4;have cQ:Off (eu (aA ⟨g,0,aj⟩,H,s4)).ownBlock dT e8:=⟨fun j eV cP=>bA.1 j eV fun e=>cP (by rw [e]; rfl),bA.2⟩;have hX:=o (fX.o.adL (ev':=(aA ⟨g,0,aj⟩,H,s4)) cQ ⟨k1,hG,hH⟩);have bT:=o (bA.box g5.o (show w.heap.size+1+1+1≠g by have:=cH.o; have:=cV.o; omega));have eC:=o (d9 w.heap.size w (by have:=cH.o; have:=cV.o; omega) eB.o);have iS:=o hI;have j0:=o hJ;have gC:=o eB.o.size;clear hG hH hI hJ bA d9 cQ gO fX g5 eB cI c8 c7 hY;have r:=bT.o;obtain⟨z0,bP,c6,z3,z4,z5⟩:=r.fA;obtain⟨d0,d1,d2,d3,d4,d5⟩:=r.kg;have d6:=r.lt;have M:=eP e8 (w.heap.size+1+1+1) (U ah b.me) (D N a2 s1) (D S a6 s2) (D T a7 s3) (D (aA ⟨g,0,aj⟩) H s4) (D a1 a8 s5);have b1:=o (dM r (U ah b.me) (D N a2 s1) (D S a6 s2) (D T a7 s3) (D (aA ⟨g,0,aj⟩) H s4) (D a1 a8 s5));have b2:=o (hX.o.but M r);have u:=o (dJ (b:=w.heap.size+1+1+1) eC.o (by omega) (U ah b.me) (D N a2 s1) (D S a6 s2) (D T a7 s3) (D (aA ⟨g,0,aj⟩) H s4) (D a1 a8 s5));have g1:=o (M.own iS.o r (by decide));have g2:=o (j0.o.mono fun _ _ q=>uN.but q M r (by decide));clear r M;go_wp2_with fail;clear z0 bP c6 z3 z4 z5;obtain⟨v0,cD,cF,v3,v4,v5⟩:=b1.o.fA;refine aB (v:=.tuple #[bg #[U ah b.me,D N a2 s1,D S a6 s2,D T a7 s3,D (aA ⟨g,0,aj⟩) H s4,D a1 a8 s5],D gA g9 hS,ak aM]) (by simp [results,aN,go_sem,v0,cD,cF,v3,v4,v5]) rfl ?_;rw [c9.o];exact⟨⟨(N,a2,s1),(S,a6,s2),(T,a7,s3),(aA ⟨g,0,aj⟩,H,s4),(a1,a8,s5),(gA,g9,hS),k2,rfl,b2.o.vbr,Row.dL g1.o,g2.o.mono fun _ _ q=>Gc q (Fb u.o),fun _=>⟨_,b2.o.near⟩,fun _=>⟨_,_,b2.o⟩,dO g1.o gC.o,w,g2.o.mono fun _ _ q=>uN.less q gC.o⟩,u.o⟩
  ·have cP:(eA != f)=aM:=by simp [cR]
   have e1:=o cR;clear cR G;have c9:=o (show takeB b (c,d) (bW,bX) f=(b,[],au) from by
    rw [<- zW cU.o];unfold JV;rw [eJ.o];simp only;rw [if_pos (by rw [eE.o]; exact e1.o)])
   have cW:=cX.o;have r:=cY.o;obtain⟨f9,fL,fN,fR,G,fS⟩:=cW.fA;obtain⟨z0,bP,c6,z3,z4,z5⟩:=r.fA;obtain⟨d0,d1,d2,d3,d4,d5⟩:=r.kg;have d6:=r.lt;have b1:=o (dM r (U ah b.me) (D no bC bB) (D b8 b7 b6) (D bO bM sc) (D b5 aE b4) (D bI b9 bE));have u:=o (dJ (b:=w.heap.size+1+1+1) cT.o (by omega) (U ah b.me) (D no bC bB) (D b8 b7 b6) (D bO bM sc) (D b5 aE b4) (D bI b9 bE));clear cW r;go_wp2_with fail;clear z0 bP c6 z3 z4 z5;obtain⟨v0,cD,cF,v3,v4,v5⟩:=b1.o.fA;refine aB (v:=.tuple #[bg #[U ah b.me,D no bC bB,D b8 b7 b6,D bO bM sc,D b5 aE b4,D bI b9 bE],D aj 0 0,ak au]) (by simp [results,aN,go_sem,v0,cD,cF,v3,v4,v5]) rfl ?_;rw [c9.o];exact⟨⟨(no,bC,bB),(b8,b7,b6),(bO,bM,sc),(b5,aE,b4),(bI,b9,bE),(aj,0,0),[],rfl,eK.o.on u.o,jK _,.nil,fun h=>h.on u.o,fun h=>(h.resolve_right (by simp)).on u.o,iR _ _,w,.nil⟩,u.o⟩
end Go.Proofs.YtghlpefopidlaaaGreat.Sb
