/-
  What a broker has sa. Conditions as told.
-/
import Derived.Test.YtghlpefopidlaaaGreatDQ022
import Derived.Test.YtghlpefopidlaaaGreatDQ023
set_option maxRecDepth 100000
set_option maxHeartbeats 64000000
open Go.IntKind renaming i64->U
open Go.Obj renaming cells->ay
open Go.Proofs.Tryz renaming prog->aK,results10->aQ
open Go.Proofs.YtghlpefopidlaaaGreat.Av renaming eP->ak
open Go.Proofs.YtghlpefopidlaaaGreat.Rw renaming wpList_append_run->aC
open Go.RowKit.Below renaming heap_setCell->aA,refl->aH
open Go.Value renaming slice->J,int->O,pointer->aD,agg->aO
open _root_.List renaming getElem?_toArray->V,getElem?_cons_zero->Y,getElem?_cons_succ->Z,getElem?_eq_getElem->aB,mem_of_getElem?->aF,mem_singleton->aI,mem_append->aL,length_filter_le->aM,mem_filter->aP
open _root_.Nat renaming le_refl->ah,le_trans->au,zero_le->aG,le_succ->aN,lt_or_ge->aR
open _root_.Option renaming none->aj,some->aJ
open Option.some renaming inj->L
open Go.Proofs.YtghlpefopidlaaaGreat renaming hq->d
namespace Go.Proofs.YtghlpefopidlaaaGreat
namespace Rt
open Go.RowKit Go.Sort Rw YtghlpefopidlaaaGreat.Nm Pr Bk Av Rl Sb
structure Lens (b:Br) (s:Br×List Ou) (n m:Nat):Prop where
 ent:s.1.ent.length<=b.ent.length+n
 own:s.1.own.length<=b.own.length+1
 o:s.2.length<=m
theorem abX (b:Br) (x:fB) (p:List C5):Lens b (iV b x p) b.dQ.length b.dQ.length:=by
 unfold iV
 split
 ·exact⟨Nat.le_add_right _ _,aN _,aG _⟩
 ·obtain⟨j,_,q⟩:=lg (b0:=ownIn b x p) (o0:=[]) (fun a=>jG p a.p) (fun a=>lC x p a) (fun a=>a.par) (fun _=>True) (fun _ _=>trivial) (fun _ _ _=>trivial) b.dQ.length (ah _);refine⟨j.len,?_,by simpa using q⟩;rw [j.own];exact Nat.le_of_eq (Bu _ _ _)
theorem R9 (b:Br) (x:fB):Lens b (fM b x) 0 (b.dQ.length * (b.ent.length+1)):=by
 unfold fM
 split
 ·exact⟨ah _,aN _,aG _⟩
 ·obtain⟨j,q⟩:=ng b x b.dQ.length (ah _);refine⟨j.len,?_,q⟩;rw [j.own];exact Nat.le_succ_of_le (aM _ _)
theorem abY (b:Br) (t x:fB) (f:Int):Lens b (jv b t x f) 0 (b.ent.length+1):=by
 refine⟨?_,?_,Bv b t x f⟩
 ·rw [iA];exact (oU b t x f).1
 ·rw [iA,(jf b t x f).2.2.2.2];exact aN _
theorem abZ (b:Br) (f:Int) (t x:fB) (p:List C5):Lens b (jS b f t x p) 1 1:=by
 refine⟨?_,?_,?_⟩
 ·rw [kH];exact Gh b _
 ·rw [kH,(je b _).2.2.2.2];exact aN _
 ·unfold jS
  split
  ·exact aG _
  ·split
   ·exact aG _
   ·exact ah _
end Rt
namespace Rt
open Go.RowKit Go.Sort Rw YtghlpefopidlaaaGreat.Nm Pr Bk Av Rl Sb Fl
structure IE (b:Br):Prop where
 few:Am b
 qJ:rR b
 ok:iU b
 lo:b.ent.length+b.dQ.length<=900
 pa:∀ a∈b.dQ,dX a.p
 pe:∀ e∈b.ent,dX e.p
theorem KI.apL {b:Br} (h:KI 12 b):IE b:=⟨h.few,h.qJ,h.ok,by have:=h.le; have:=h.la; omega,h.pa,h.pe⟩
theorem ajz {b c:Br} {x:fB} {p:List C5} {k:Nat} (h:SuI (ownIn b x p) c k) (j:IE b) (r:k<=b.dQ.length) (u:b.own.length<=899):Am c:=⟨by rw [h.at_.near]; exact j.few.near,by rw [h.at_.dQ]; exact j.few.dQ,by rw [h.at_.seen]; exact j.few.seen,by have q:c.ent.length<=b.ent.length+k:=h.at_.len; have:=j.lo; omega,by rw [h.at_.own]; unfold ownIn; rw [Bu]; omega⟩
theorem aex {b c:Br} {x:fB} {p:List C5} {k:Nat} (h:SuI (ownIn b x p) c k) (q:IE b) (pp:dX p):rR c:=⟨by rw [h.at_.dQ]; exact q.qJ.dQ,fun e r=>iF (h.pe e r),by
 rw [h.at_.own];intro o j;rcases (jZ _ _ _ _).1 j with rfl|j
 ·exact iF pp
 ·exact q.qJ.own o j⟩
theorem aey {b c:Br} {x:fB} (h:UnI b c (nY b x)) (j:IE b):Am c:=⟨by rw [h.near]; exact j.few.near,by rw [h.dQ]; exact j.few.dQ,by rw [h.seen]; exact j.few.seen,au h.len j.few.ent,by rw [h.own]; exact au (aM _ _) j.few.own⟩
theorem abW {b c:Br} {x:fB} (h:UnI b c (nY b x)) (j:IE b) (u:∀ e∈c.ent,dX e.p):rR c:=⟨by rw [h.dQ]; exact j.qJ.dQ,fun e q=>iF (u e q),by rw [h.own]; exact fun o r=>j.qJ.own o (aP.1 r).1⟩
theorem Xl (b:Br) (par:Int) (e:En):(iP b par e).2.length<=1:=by
 unfold iP;dsimp only
 split <;> simp
theorem Xm (b:Br) (par:Int) (t x:fB) (f:Int) (h:b.ent.length<=900):(jo b par t x f).2.length<=1000000:=by
 have j:=(oU b t x f).2;unfold jo;dsimp only
 split
 ·rw [List.length_append,List.length_map,List.length_singleton];omega
 ·exact aG _
theorem aez {w0 wr:World} {B B':Nat} {b:Br} {q av u j r:Sl} (h:Cp w0 B wr b q av u j r) (hB:B'<=B):Cp w0 B' wr b q av u j r:=Go.Proofs.YtghlpefopidlaaaGreat.Sb.Cp.less h hB
theorem aeA (q j:Value) (p r:List C5) (w:World) (u:fO w q p) (F:fO w j r) (G:dX p) (H:dX r) :
  Calls aK 28 #[q,j] w fun e w'=>e=.returned (.bool (jG p r))/\Below w.heap.size w w':=by
 obtain⟨a,I,rfl⟩:=G;obtain⟨b,M,rfl⟩:=H;unfold jG;rw [r9,r9];exact Ru q j a b w u F I M
end Rt
namespace Fl
open Go.RowKit Go.Sort Rw YtghlpefopidlaaaGreat.Nm Pr Bk Av
end Fl
namespace Fl
open Go.RowKit Go.Sort Rw YtghlpefopidlaaaGreat.Nm Pr Bk Av Rl Sb
structure al3 (b:Br) (f:Int) (p:List C5):Prop where
 few:Am b
 qJ:rR b
 ok:iU b
 ls:b.seen.length<=899
 la:b.dQ.length<=899
 lo:b.ent.length+b.own.length<=900
 pe:∀ e∈b.ent,dX e.p
 po:∀ o∈b.own,dX o.p
 pp:dX p
 co:jm b.near f=true
 rp:Wr.fT p=true
structure Cut (b c:Br) (t:fB) (f:Int):Prop where
 dQ:al3 c f []
 none_:gY c.dQ t=aj
 un:Gm c f t=(c,[])
 anew:nG c f t []=(c,[])
 len:c.dQ.length+1=b.dQ.length
 br:qb c.ent t=[]
 seen:t∈c.seen
 mem:∀ e∈b.ent,e.tree≠t->e∈c.ent
end Fl
namespace Bk
open Go.RowKit Go.Sort Rw YtghlpefopidlaaaGreat.Nm Pr
structure ab0 (w W:World) (B:Nat) (b:Br) (nv av sv ev ov:Sl):Prop where
 near:zk W B (eu nv) b.near
 dQ:∃ l,nD W B (eu av) l/\eY (rP w) l b.dQ
 seen:tq W B (eu sv) b.seen
 ent:∃ l,jJ W B (eu ev) l/\eY (jF w) l b.ent
 own:∃ l,nO W B (eu ov) l/\eY (xQ w) l b.own
theorem Xn (b:Br) (cU av d6 cM d0:Sl) (w:World) (h:iT w b cU av d6 cM d0) (a1:Am b) :
  Calls aK 16 #[mg b.me cU av d6 cM d0] w fun e w'=>(∃ f2 Eb Mw ev' Ql:Sl,e=.returned (mg b.me f2 Eb Mw ev' Ql)/\ab0 w w' w.heap.size b f2 Eb Mw ev' Ql)/\Below w.heap.size w w':=by
 obtain⟨no,f1,f0⟩:=cU;obtain⟨cL,cJ,cI⟩:=av;obtain⟨bW,bT,sc⟩:=d6;obtain⟨bA,b9,b8⟩:=cM;obtain⟨a6,T,a2⟩:=d0;obtain⟨la,eB,cR⟩:=h.dQ;obtain⟨le,eC,cS⟩:=h.ent;obtain⟨cA,eN,cT⟩:=h.own;have g1:=d cR;have g2:=d cS;have g3:=d cT;have g9:=d h.near;have gA:=d eB;have gC:=d h.seen;have gE:=d eC;have gI:=d eN;have g4:=d a1.near;have g5:=d (show la.length<=900 by rw [cR.len]; exact a1.dQ);have g6:=d a1.seen;have g7:=d (show le.length<=900 by rw [cS.len]; exact a1.ent);have g8:=d (show cA.length<=900 by rw [cT.len]; exact a1.own);obtain⟨cN,cP,cQ⟩:=gX w #[O U b.me,J no f1 f0,J cL cJ cI,J bW bT sc,J bA b9 b8,J a6 T a2] #[O U 0,J aj 0 0,J aj 0 0,J aj 0 0,J aj 0 0,J aj 0 0] 30 30;obtain⟨me,eM⟩:∃ me,me=b.me:=⟨_,rfl⟩;simp only [<- eM] at cN cP cQ ⊢;have bX:=d cN;have bE:=d cP;have cC:=d cQ;clear cN cP cQ h a1 eB cR eC cS eN cT eM;go_enter Tryz.func16,Tryz.ntmps16;go_upto_region 1 with fail;generalize (w.alloc (ay #[O U me,J no f1 f0,J cL cJ cI,J bW bT sc,J bA b9 b8,J a6 T a2] 30)).alloc (ay #[O U 0,J aj 0 0,J aj 0 0,J aj 0 0,J aj 0 0,J aj 0 0] 30)=W at *;obtain⟨hF,w0,d1,o0,e6⟩:=iI Nm.UY (w.heap.size+2) (dR W #[] 3) (by have:=bE.o.lt; have:=cC.o.lt; omega) ((g9.o.on bX.o).on (fP W (ay #[] 3))) (by have:=g4.o; omega) 24;obtain⟨a0,c0,eQ⟩:=(Row.dL o0).len;obtain⟨r,eE⟩:∃ n,n=(b.near).length:=⟨_,rfl⟩;rw [<- eE] at eQ;subst eQ;have bC:=(fP W (ay #[] 3)).trans (e6.mono (fP W (ay #[] 3)).size);have b5:=bE.o.on bC;have d7:=(bE.o.on (fP W (ay #[] 3))).cell 1;have f6:=b5.cell 1;have h4:=b5.fr 1;have z0:=b5.lt;simp only [V,Y,Z] at d7 f6;have bI:=d (show dN _ _ #[O U me,J a0 r c0,J cL cJ cI,J bW bT sc,J bA b9 b8,J a6 T a2] _ from by simpa using eD (k:=1) b5 (J a0 r c0));have cD:=d (show dN _ _ _ _ from (aA w0 ⟨w.heap.size,1,aj⟩ (J a0 r c0) _ (show w.heap.size+1≠w.heap.size by omega)).trans (cC.o.on bC));have c6:=d (((bX.o.trans (bC.mono bX.o.size)).setCell (p:=⟨w.heap.size,1,aj⟩) (ah _) (J a0 r c0)));have dE:=d (eF o0 w.heap.size 1 (J a0 r c0) (by omega));clear b5 bC o0 e6 eE bE cC ;go_upto_region 2 with (first | (at_builtin; refine aC rfl _ _ 24 rfl rfl rfl d1 ?_) | fail)
 clear d1 d7 f6 h4 z0;generalize w0.setCell ⟨w.heap.size,1,aj⟩ (J a0 r c0)=aE at *;obtain⟨hG,w1,d2,cV,e7⟩:=iI okD (w.heap.size+2) (dR aE #[] 36) (by have:=bI.o.lt; have:=cD.o.lt; omega) ((gA.o.on c6.o).on (fP aE (ay #[] 36))) (by have:=g5.o; omega) 25;obtain⟨j,c1,eR⟩:=(Row.dL cV).len;obtain⟨u,eI⟩:∃ n,n=(la).length:=⟨_,rfl⟩;rw [<- eI] at eR;subst eR;have a7:=(fP aE (ay #[] 36)).trans (e7.mono (fP aE (ay #[] 36)).size);have b6:=bI.o.on a7;have d8:=(bI.o.on (fP aE (ay #[] 36))).cell 2;have f7:=b6.cell 2;have h5:=b6.fr 2;have hC:=b6.lt;simp only [V,Y,Z] at d8 f7;have bM:=d (show dN _ _ #[O U me,J a0 r c0,J j u c1,J bW bT sc,J bA b9 b8,J a6 T a2] _ from by simpa using eD (k:=2) b6 (J j u c1));have cF:=d (show dN _ _ _ _ from (aA w1 ⟨w.heap.size,2,aj⟩ (J j u c1) _ (show w.heap.size+1≠w.heap.size by omega)).trans (cD.o.on a7));have c7:=d (((c6.o.trans (a7.mono c6.o.size)).setCell (p:=⟨w.heap.size,2,aj⟩) (ah _) (J j u c1)));have dS:=d (eF (dK dE.o a7) w.heap.size 2 (J j u c1) (by omega));have dT:=d (eF cV w.heap.size 2 (J j u c1) (by omega));clear b6 a7 cV e7 eI bI cD dE;go_upto_region 3 with (first | (at_builtin; refine aC rfl _ _ 25 rfl rfl rfl d2 ?_) | fail)
 clear d2 d8 f7 h5 hC;generalize w1.setCell ⟨w.heap.size,2,aj⟩ (J j u c1)=b1 at *;obtain⟨hH,f3,d3,cW,e8⟩:=iI Eu (w.heap.size+2) (dR b1 #[] 23) (by have:=bM.o.lt; have:=cF.o.lt; omega) ((gC.o.on c7.o).on (fP b1 (ay #[] 23))) (by have:=g6.o; omega) 26;obtain⟨q,c2,eS⟩:=(Row.dL cW).len;obtain⟨F,eJ⟩:∃ n,n=(b.seen).length:=⟨_,rfl⟩;rw [<- eJ] at eS;subst eS;have S:=(fP b1 (ay #[] 23)).trans (e8.mono (fP b1 (ay #[] 23)).size);have M:=bM.o.on S;have d9:=(bM.o.on (fP b1 (ay #[] 23))).cell 3;have f8:=M.cell 3;have h6:=M.fr 3;have hD:=M.lt;simp only [V,Y,Z] at d9 f8;have bO:=d (show dN _ _ #[O U me,J a0 r c0,J j u c1,J q F c2,J bA b9 b8,J a6 T a2] _ from by simpa using eD (k:=3) M (J q F c2));have cG:=d (show dN _ _ _ _ from (aA f3 ⟨w.heap.size,3,aj⟩ (J q F c2) _ (show w.heap.size+1≠w.heap.size by omega)).trans (cF.o.on S));have c8:=d (((c7.o.trans (S.mono c7.o.size)).setCell (p:=⟨w.heap.size,3,aj⟩) (ah _) (J q F c2)));have dZ:=d (eF (dK dS.o S) w.heap.size 3 (J q F c2) (by omega));have e0:=d (eF (dK dT.o S) w.heap.size 3 (J q F c2) (by omega));have e1:=d (eF cW w.heap.size 3 (J q F c2) (by omega));clear M S cW e8 eJ bM cF dS dT;go_upto_region 4 with (first | (at_builtin; refine aC rfl _ _ 26 rfl rfl rfl d3 ?_) | fail)
 clear d3 d9 f8 h6 hD;generalize f3.setCell ⟨w.heap.size,3,aj⟩ (J q F c2)=b2 at *;obtain⟨hI,f4,d4,cX,e9⟩:=iI nE (w.heap.size+2) (dR b2 #[] 67) (by have:=bO.o.lt; have:=cG.o.lt; omega) ((gE.o.on c8.o).on (fP b2 (ay #[] 67))) (by have:=g7.o; omega) 27;obtain⟨a3,c3,eV⟩:=(Row.dL cX).len;obtain⟨G,eK⟩:∃ n,n=(le).length:=⟨_,rfl⟩;rw [<- eK] at eV;subst eV;have N:=(fP b2 (ay #[] 67)).trans (e9.mono (fP b2 (ay #[] 67)).size);have b7:=bO.o.on N;have dA:=(bO.o.on (fP b2 (ay #[] 67))).cell 4;have f9:=b7.cell 4;have h7:=b7.fr 4;have z3:=b7.lt;simp only [V,Y,Z] at dA f9;have bP:=d (show dN _ _ #[O U me,J a0 r c0,J j u c1,J q F c2,J a3 G c3,J a6 T a2] _ from by simpa using eD (k:=4) b7 (J a3 G c3));have cH:=d (show dN _ _ _ _ from (aA f4 ⟨w.heap.size,4,aj⟩ (J a3 G c3) _ (show w.heap.size+1≠w.heap.size by omega)).trans (cG.o.on N));have c9:=d (((c8.o.trans (N.mono c8.o.size)).setCell (p:=⟨w.heap.size,4,aj⟩) (ah _) (J a3 G c3)));have e2:=d (eF (dK dZ.o N) w.heap.size 4 (J a3 G c3) (by omega));have e3:=d (eF (dK e0.o N) w.heap.size 4 (J a3 G c3) (by omega));have e4:=d (eF (dK e1.o N) w.heap.size 4 (J a3 G c3) (by omega));have e5:=d (eF cX w.heap.size 4 (J a3 G c3) (by omega));clear b7 N cX e9 eK bO cG dZ e0 e1;go_upto_region 5 with (first | (at_builtin; refine aC rfl _ _ 27 rfl rfl rfl d4 ?_) | fail)
 clear d4 dA f9 h7 z3;generalize f4.setCell ⟨w.heap.size,4,aj⟩ (J a3 G c3)=b4 at *;obtain⟨hJ,f5,d5,cY,eA⟩:=iI okW (w.heap.size+2) (dR b4 #[] 88) (by have:=bP.o.lt; have:=cH.o.lt; omega) ((gI.o.on c9.o).on (fP b4 (ay #[] 88))) (by have:=g8.o; omega) 28;obtain⟨a4,c4,eW⟩:=(Row.dL cY).len;obtain⟨H,eL⟩:∃ n,n=(cA).length:=⟨_,rfl⟩;rw [<- eL] at eW;subst eW;have I:=(fP b4 (ay #[] 88)).trans (eA.mono (fP b4 (ay #[] 88)).size);have a8:=bP.o.on I;have dC:=(bP.o.on (fP b4 (ay #[] 88))).cell 5;have fL:=a8.cell 5;have h8:=a8.fr 5;have z4:=a8.lt;simp only [V,Y,Z] at dC fL;have gO:=d (show dN _ _ #[O U me,J a0 r c0,J j u c1,J q F c2,J a3 G c3,J a4 H c4] _ from by simpa using eD (k:=5) a8 (J a4 H c4));have gR:=d (show dN _ _ _ _ from (aA f5 ⟨w.heap.size,5,aj⟩ (J a4 H c4) _ (show w.heap.size+1≠w.heap.size by omega)).trans (cH.o.on I));have fN:=d (((c9.o.trans (I.mono c9.o.size)).setCell (p:=⟨w.heap.size,5,aj⟩) (ah _) (J a4 H c4)));have gS:=d (eF (dK e2.o I) w.heap.size 5 (J a4 H c4) (by omega));have h0:=d (eF (dK e3.o I) w.heap.size 5 (J a4 H c4) (by omega));have h1:=d (eF (dK e4.o I) w.heap.size 5 (J a4 H c4) (by omega));have h2:=d (eF (dK e5.o I) w.heap.size 5 (J a4 H c4) (by omega));have h3:=d (eF cY w.heap.size 5 (J a4 H c4) (by omega));clear a8 I cY eA eL bP cH e2 e3 e4 e5;go_upto_region 6 with (first | (at_builtin; refine aC rfl _ _ 28 rfl rfl rfl d5 ?_) | fail)
 clear d5 dC fL h8 z4;generalize f5.setCell ⟨w.heap.size,5,aj⟩ (J a4 H c4)=hE at *;have M:=gO.o;have bB:=gR.o;obtain⟨d7,d8,d9,dA,dC,hK⟩:=M.fA;obtain⟨d1,d2,d3,d4,d5,r5⟩:=bB.fA;obtain⟨t0,t1,t2,t3,t4,t5⟩:=bB.kg;have hL:=bB.lt;have g0:=d (dM bB (O U me) (J a0 r c0) (J j u c1) (J q F c2) (J a3 G c3) (J a4 H c4));have fR:=d (dJ (b:=w.heap.size+1) fN.o (by omega) (O U me) (J a0 r c0) (J j u c1) (J q F c2) (J a3 G c3) (J a4 H c4));have fS:=d (fJ gS.o (w.heap.size+1) (by omega) (O U me) (J a0 r c0) (J j u c1) (J q F c2) (J a3 G c3) (J a4 H c4));have fV:=d (fJ h0.o (w.heap.size+1) (by omega) (O U me) (J a0 r c0) (J j u c1) (J q F c2) (J a3 G c3) (J a4 H c4));have fW:=d (fJ h1.o (w.heap.size+1) (by omega) (O U me) (J a0 r c0) (J j u c1) (J q F c2) (J a3 G c3) (J a4 H c4));have fX:=d (fJ h2.o (w.heap.size+1) (by omega) (O U me) (J a0 r c0) (J j u c1) (J q F c2) (J a3 G c3) (J a4 H c4));have fY:=d (fJ h3.o (w.heap.size+1) (by omega) (O U me) (J a0 r c0) (J j u c1) (J q F c2) (J a3 G c3) (J a4 H c4));clear M bB;go_wp2_with fail;obtain⟨v0,h9,hA,v3,v4,v5⟩:=g0.o.fA;refine bodyPost_ret (v:=aO #[O U me,J a0 r c0,J j u c1,J q F c2,J a3 G c3,J a4 H c4]) (by simp [results,Tryz.results16,go_sem,v0,h9,hA,v3,v4,v5]) rfl ?_;exact⟨⟨(a0,r,c0),(j,u,c1),(q,F,c2),(a3,G,c3),(a4,H,c4),rfl,dO fS.o (by omega),⟨la,dO fV.o (by omega),g1.o⟩,dO fW.o (by omega),⟨le,dO fX.o (by omega),g2.o⟩,⟨cA,dO fY.o (by omega),g3.o⟩⟩,fR.o⟩
end Bk
namespace Fl
open Go.RowKit Go.Sort Rw YtghlpefopidlaaaGreat.Nm Pr Bk Av Rl Sb
structure Ms (b:Br):Prop where
 few:Am b
 qJ:rR b
 ok:iU b
 pe:∀ e∈b.ent,dX e.p
theorem Ms.apV {b:Br} (h:Ms b):ae4 b:=⟨fun a j=>yY (h.ok.oks a j).2.2,fun e j=>yY (R8 (h.ok.Q6 e j)),fun o j=>yY (h.ok.oko o j)⟩
theorem Ms.shr {b:Br} (h:Ms b):Shr b:=⟨fun _ a j=>au (h.qJ.dQ a (aF j)) (by decide),fun _ a j=>au (h.qJ.ent a (aF j)) (by decide),fun _ a j=>au (h.qJ.own a (aF j)) (by decide)⟩
theorem Ms.right {b:Br} (h:Ms b):VY b=true:=(zO b).2 h.ok
theorem KI.nice {b:Br} (h:KI 12 b):Ms b:=⟨h.few,h.qJ,h.ok,h.pe⟩
end Fl
namespace Rt
open Go.RowKit Go.Sort Rw YtghlpefopidlaaaGreat.Nm Pr Bk Av Rl Sb Fl
structure Kept (b:Br) (c:Br):Prop where
 me:c.me=b.me
 near:c.near=b.near
 dQ:c.dQ=b.dQ
 seen:c.seen=b.seen
theorem Ke (b:Br) (x:fB) (p:List C5):Kept b (iV b x p).1:=by
 unfold iV
 split
 ·exact⟨rfl,rfl,rfl,rfl⟩
 ·obtain⟨j,_,_⟩:=lg (b0:=ownIn b x p) (o0:=[]) (fun a=>jG p a.p) (fun a=>lC x p a) (fun a=>a.par) (fun _=>True) (fun _ _=>trivial) (fun _ _ _=>trivial) b.dQ.length (ah _);exact⟨j.me,j.near,j.dQ,j.seen⟩
theorem Dc (b:Br) (x:fB):Kept b (fM b x).1:=by
 unfold fM
 split
 ·exact⟨rfl,rfl,rfl,rfl⟩
 ·obtain⟨j,_⟩:=ng b x b.dQ.length (ah _);exact⟨j.me,j.near,j.dQ,j.seen⟩
theorem Kg (b:Br) (f:Int) (t x:fB) (p:List C5):Kept b (jS b f t x p).1:=by
 rw [kH];obtain⟨j,q,r,u,_⟩:=je b ⟨t,x,p,f,false⟩;exact⟨j,q,r,u⟩
theorem Kh (b:Br) (t x:fB) (f:Int):Kept b (jv b t x f).1:=by
 rw [iA];obtain⟨j,q,r,u,_⟩:=jf b t x f;exact⟨r,q,j,u⟩
structure PV (R:fB->List C5->Prop) (s:Br×List Ou):Prop where
 ent:∀ e∈s.1.ent,R e.sub e.p
 o:∀ o∈s.2,R o.id o.p
theorem PW {b:Br} {R:fB->List C5->Prop} (h:∀ e∈b.ent,R e.sub e.p) (e:En) (j:R e.sub e.p):∀ z∈(iL b e).1.ent,R z.sub z.p:=Gg (fun z=>R z.sub z.p) h fun _=>j
theorem Xo {b:Br} {R:fB->List C5->Prop} (h:∀ e∈b.ent,R e.sub e.p) (f:Int) (t x:fB) (p:List C5) (q:R x p):PV R (jS b f t x p):=by
 refine⟨by rw [kH]; exact PW h _ q,?_⟩;unfold jS
 split
 ·exact fun o j=>by simp at j
 ·split
  ·exact fun o j=>by simp at j
  ·intro o j;rw [aI.1 j];exact q
theorem Ki {b:Br} {R:fB->List C5->Prop} (h:∀ e∈b.ent,R e.sub e.p) (t x:fB) (f:Int) (F:R x []):PV R (jv b t x f):=by
 obtain⟨q,r⟩:=xK t x f (fun e=>R e.sub e.p) (fun _ _ G=>G) h;refine⟨by rw [iA]; exact q,?_⟩;unfold jv
 split
 ·exact fun o j=>by simp at j
 ·split
  ·exact fun o j=>by simp at j
  ·intro o j;rcases aL.1 j with j|j
   ·obtain⟨e,u,rfl⟩:=List.mem_map.1 j;exact r e u
   ·rw [aI.1 j];exact F
theorem Xp {b:Br} {R:fB->List C5->Prop} (h:∀ e∈b.ent,R e.sub e.p) (x:fB) (p:List C5) (r:R x p):PV R (iV b x p):=by
 have key:∀ k,k<=b.dQ.length->PV R (fu b.dQ (iK x p) (ownIn b x p,[]) k):=by
  intro k
  induction k with
  | zero=>exact fun _=>⟨h,fun o j=>by simp [fu] at j⟩
  | succ k G =>
   intro F;obtain⟨a,u⟩:∃ a,b.dQ[k]?=aJ a:=⟨_,aB F⟩;rw [nM _ _ u];have q:=G (by omega);generalize fu b.dQ (iK x p) (ownIn b x p,[]) k=s at *;show PV R (iq _ _ _ _);unfold iq
   split
   ·exact q
   ·refine⟨PW q.ent _ r,?_⟩;dsimp only
    split
    ·intro o j;rcases aL.1 j with j|j
     ·exact q.o o j
     ·rw [aI.1 j];exact r
    ·exact q.o
 unfold iV
 split
 ·exact⟨h,fun o j=>by simp at j⟩
 ·exact key _ (ah _)
theorem PY {b:Br} {R:fB->List C5->Prop} (h:∀ e∈b.ent,R e.sub e.p) (x:fB) (G:R x []):PV R (fM b x):=by
 have key:∀ k,k<=b.dQ.length->PV R (ig b x k):=by
  intro k
  induction k with
  | zero=>exact fun _=>⟨h,fun o j=>by simp [ig] at j⟩
  | succ k H =>
   intro F;obtain⟨a,u⟩:∃ a,b.dQ[k]?=aJ a:=⟨_,aB F⟩;rw [lH b x u];have r:=H (by omega);have q:=Ki r.ent a.id x (-1) G;refine⟨q.ent,fun o j=>?_⟩;rcases aL.1 (show o∈(ig b x k).2++(jv (ig b x k).1 a.id x (-1)).2 from j) with j|j
   ·exact r.o o j
   ·exact q.o o j
 unfold fM
 split
 ·exact⟨h,fun o j=>by simp at j⟩
 ·exact key _ (ah _)
structure After (b:Br) (s:Br×List Ou):Prop where
 nice:Ms s.1
 tight:iD s.1
 o:s.2.length<=1000000/\∀ o∈s.2,o.p.length<=1000
 me:s.1.me=b.me
theorem Ah {b:Br} {s:Br×List Ou} {n m:Nat} (j:Kept b s.1) (r:Lens b s n m) (q:Am b) (H:rR b) (G:b.ent.length+n<=900) (T:b.own.length<=899) (I:m<=1000000) (u:PV (fun _ p=>dX p) s) (S:∀ o∈s.1.own,o.p.length<=900) (M:iU s.1) (N:iD s.1):After b s :=
 ⟨⟨⟨by rw [j.near]; exact q.near,by rw [j.dQ]; exact q.dQ,by rw [j.seen]; exact q.seen,au r.ent G,au r.own (by omega)⟩,⟨by rw [j.dQ]; exact H.dQ,fun e F=>iF (u.ent e F),S⟩,M,u.ent⟩,N,⟨au r.o I,fun o F=>au (Go.Proofs.YtghlpefopidlaaaGreat.Sb.iF (u.o o F)) (by decide)⟩,j.me⟩
theorem Uy:dX []:=⟨[],⟨List.Pairwise.nil,by simp,by simp,by simp⟩,rfl⟩
theorem ab1 {b:Br} {x:fB} {p:List C5}:∀ o∈(iV b x p).1.own,o=⟨x,p⟩\/o∈b.own:=by
 unfold iV
 split
 ·exact fun o j=>Or.inr j
 ·obtain⟨q,_,_⟩:=lg (b0:=ownIn b x p) (o0:=[]) (fun a=>jG p a.p) (fun a=>lC x p a) (fun a=>a.par) (fun _=>True) (fun _ _=>trivial) (fun _ _ _=>trivial) b.dQ.length (ah _);rw [q.own];exact fun o j=>(jZ _ _ _ _).1 j
theorem Sc {b:Br} {x:fB}:∀ o∈(fM b x).1.own,o∈b.own:=by
 unfold fM
 split
 ·exact fun o j=>j
 ·obtain⟨q,_⟩:=ng b x b.dQ.length (ah _);rw [q.own];exact fun o j=>(aP.1 j).1
structure RtN (b:Br):Prop where
 rt:IE b
 lo:b.own.length<=899
 le:b.ent.length<=899
 tight:iD b
theorem Sd {b:Br} (h:RtN b) (x:fB) {p:List C5} (pp:dX p) (q:Wr.fT p=true):After b (iV b x p) :=
 Ah (Ke b x p) (abX b x p) h.rt.few h.rt.qJ h.rt.lo h.lo (au h.rt.few.dQ (by decide)) (Xp h.rt.pe x p pp) (fun o j=>by
  rcases ab1 o j with rfl|j
  ·exact iF pp
  ·exact h.rt.qJ.own o j) (Ul h.rt.ok x p q) (GJ h.rt.ok h.tight x p q)
theorem Mt {b:Br} (h:RtN b) (x:fB):After b (fM b x) :=
 Ah (Dc b x) (R9 b x) h.rt.few h.rt.qJ (by have:=h.le; omega) h.lo (by have j:=h.rt.few.dQ; have r:=h.rt.few.ent; have u:b.dQ.length * (b.ent.length+1)<=900 * 901:=Nat.mul_le_mul j (by omega); omega) (PY h.rt.pe x Uy) (fun o q=>h.rt.qJ.own o (Sc o q)) (JZ h.rt.ok x) (Af h.tight x)
theorem Sg {b:Br} (h:RtN b) (f:Int) (t x:fB) {p:List C5} (pp:dX p) (r:Wr.fT p=true) (q:jm b.near f=true):After b (jS b f t x p) :=
 Ah (Kg b f t x p) (abZ b f t x p) h.rt.few h.rt.qJ (by have:=h.le; omega) h.lo (by decide) (Xo h.rt.pe f t x p pp) (fun o j=>h.rt.qJ.own o (by rw [kH,(je b _).2.2.2.2] at j; exact j)) (by rw [kH]; exact Rp h.rt.ok _ q r) (by rw [kH]; exact Bg h.rt.ok _ h.tight)
theorem after_drop {b:Br} (h:RtN b) (t x:fB) (f:Int):After b (jv b t x f) :=
 Ah (Kh b t x f) (abY b t x f) h.rt.few h.rt.qJ (by have:=h.le; omega) h.lo (by have:=h.rt.few.ent; omega) (Ki h.rt.pe t x f Uy) (fun o j=>h.rt.qJ.own o (by rw [iA,(jf b t x f).2.2.2.2] at j; exact j)) (Mk h.rt.ok t x f) (by rw [iA]; exact yU t x f h.tight)
theorem KI.rtN {b:Br} (h:KI 12 b) (j:iD b):RtN b:=⟨Go.Proofs.YtghlpefopidlaaaGreat.Rt.KI.apL h,by have:=h.lo; omega,by have:=h.le; omega,j⟩
theorem P8 (b:Br) (s1:OA) (s2 s3:Nat) (s4:OA) (s5 a7:Nat) (a8:OA) (aE b1:Nat) (a1:OA) (a2 a6:Nat) (M:OA) (N S:Nat) (u F:Int) (po:OA) (eR eQ:Nat) (p:List C5) (w:World) (h:qF w b (s1,s2,s3) (s4,s5,a7) (a8,aE,b1) (a1,a2,a6) (M,N,S)) (l1:fO w (J po eR eQ) p) (f7:IE b) (lo9:b.own.length<=899) (pp:dX p) (lL:Wr.fT p=true) :
  Calls aK 10 #[aO #[O U b.me,J s1 s2 s3,J s4 s5 a7,J a8 aE b1,J a1 a2 a6,J M N S],aO #[O U u,O U F],J po eR eQ] w (RtQ w (mq w b (s1,s2,s3) (s4,s5,a7) (a8,aE,b1) (a1,a2,a6) (M,N,S)) (iV b (u,F) p)):=by
 have mL:=d lo9;clear lo9;obtain⟨e2,d0,b2,k9⟩:=gT w #[O U b.me,J s1 s2 s3,J s4 s5 a7,J a8 aE b1,J a1 a2 a6,J M N S] #[O U u,O U F] #[O U 0,J aj 0 0,J aj 0 0,J aj 0 0,J aj 0 0,J aj 0 0] 30 23 30;obtain⟨l7,d7,d8⟩:=h.br.own;have h3:=d (GQ (M,N,S) l7 b.own (u,F) _ (d7.on e2) (d8.mono fun _ _ q=>q.on e2) f7.ok.own (by rw [d8.len]; have:=f7.few.own; omega));have oY:=d h;have cJ:=d f7;have p0:=d (show mq w b (s1,s2,s3) (s4,s5,a7) (a8,aE,b1) (a1,a2,a6) (M,N,S)->mq w b (s1,s2,s3) (s4,s5,a7) (a8,aE,b1) (a1,a2,a6) (M,N,S) from id);have gA:=d l1;have e0:=d pp;have jB:=d lL;obtain⟨dC,f9⟩:∃ k,fG Ow.id b.own (u,F)=k:=⟨_,rfl⟩;obtain⟨oG,hF⟩:∃ k,gZ Ow.id b.own (u,F)=k:=⟨_,rfl⟩;rw [f9,hF] at h3;have mD:=d f9;have h6:=d hF;have mK:=d (show dC<=b.own.length by rw [<- f9]; exact Bw _ _ _);have h8:=d (e2);have h4:=d (d0);have h5:=d (b2);have jV:=d (k9);have i8:=d (h.on e2);clear e2 d0 b2 k9 h f7 d7 d8 l7 f9 hF l1 pp lL;go_enter Tryz.func10,Tryz.ntmps10;go_upto_region 1 with fail;generalize (((w.alloc (ay #[O U b.me,J s1 s2 s3,J s4 s5 a7,J a8 aE b1,J a1 a2 a6,J M N S] 30)).alloc (ay #[O U u,O U F] 23)).alloc (ay #[O U 0,J aj 0 0,J aj 0 0,J aj 0 0,J aj 0 0,J aj 0 0] 30))=W at *;obtain⟨b4,b5,b6,b7,b8,b9⟩:=h4.o.fA;obtain⟨m1,oX⟩:=h5.o.cs2;go_wp2_with fail;refine h3.o.mono ?_;rintro pC w1 ⟨rfl,G⟩;clear h3;clear b4 b5 b6 b7 b8 b9 m1 oX;have fR:=d (h8.o.trans (G.mono h8.o.size));have T:=d (h4.o.on G);have jY:=d (h5.o.on G);have d3:=d (jV.o.on G);have gO:=d (i8.o.on G);clear h8 h4 h5 jV i8;clear G;have n5:=d d3.o.lt;cases oG
 ·have b4:=T.o.cell 0;have b5:=T.o.cell 1;have b6:=T.o.cell 2;have b7:=T.o.cell 3;have b8:=T.o.cell 4;have b9:=T.o.cell 5;simp only [V,Y,Z] at b4 b5 b6 b7 b8 b9;go_wp2_with fail;refine (qL b (s1,s2,s3) (s4,s5,a7) (a8,aE,b1) (a1,a2,a6) (M,N,S) w1 w1 (aH _ _) gO.o.br cJ.o.few cJ.o.qJ).mono ?_;rintro pD hX ⟨⟨⟨cM,cR,cS⟩,⟨cT,I,cU⟩,⟨cV,cW,cX⟩,⟨cN,cP,cQ⟩,⟨dE,dS,dT⟩,rfl,e4⟩,G⟩;clear b4 b5 b6 b7 b8 b9;clear gO;have l9:=d (fR.o.trans (G.mono fR.o.size));have dZ:=d (T.o.on G);have k0:=d (jY.o.on G);have k1:=d (d3.o.on G);clear fR T jY d3;have mS:=d (show w.heap.size+1+1+1<=w1.heap.size from n5.o);have k2:=d G;have i5:=d e4;clear e4 G;obtain⟨dC,hG,hH,hI,hJ,hK⟩:=dZ.o.fA;obtain⟨hM,hN,hO,hP,hQ,hR⟩:=dZ.o.kg;have f2:=dZ.o.lt;have H:=ak hX w.heap.size (O U b.me) (J cM cR cS) (J cT I cU) (J cV cW cX) (J cN cP cQ) (J dE dS dT);have bA:=d (dJ (b:=w.heap.size) l9.o (ah _) (O U b.me) (J cM cR cS) (J cT I cU) (J cV cW cX) (J cN cP cQ) (J dE dS dT));have bB:=d (H.box k0.o (by omega));have bC:=d (H.box k1.o (by omega));have bE:=d (i5.o.but H dZ.o);have bI:=d (dM dZ.o (O U b.me) (J cM cR cS) (J cT I cU) (J cV cW cX) (J cN cP cQ) (J dE dS dT));have mX:=d (show w1.heap.size<=(gH hX w.heap.size (O U b.me) (J cM cR cS) (J cT I cU) (J cV cW cX) (J cN cP cQ) (J dE dS dT)).heap.size from by have:=k2.o.size; simp [gH]; omega);clear H k2 l9 k0 k1 i5 dZ;go_upto_region 5 with fail;clear f2 dC hG hH hI hJ hK hM hN hO hP hQ hR;unfold gH at mX bA bB bC bE bI;generalize ((((((hX.setCell ⟨w.heap.size,0,aj⟩ (O U b.me)).setCell ⟨w.heap.size,1,aj⟩ (J cM cR cS)).setCell ⟨w.heap.size,2,aj⟩ (J cT I cU)).setCell ⟨w.heap.size,3,aj⟩ (J cV cW cX)).setCell ⟨w.heap.size,4,aj⟩ (J cN cP cQ)).setCell ⟨w.heap.size,5,aj⟩ (J dE dS dT))=oQ at *;have fV:=d (bA.o);have h7:=d (bB.o);have j9:=d (bC.o);have i1:=d (bE.o);have lO:=d (bI.o);clear bA bB bC bE bI;have m8:=d (ajs (aby cJ.o.ok jB.o h6.o) cJ.o.pe e0.o jB.o);have n4:=d (abx p h6.o);refine su5 _ oQ w.heap.size (w.heap.size+1) w.heap.size dC w1 b cM cR cS cT I cU cV cW cX cN cP cQ dE dS dT u F po eR eQ p lO.o h7.o (aez i1.o (Nat.le_of_lt (Nat.lt_of_lt_of_le (by omega) mS.o))) (by rw [<- iN]; exact mD.o) mK.o cJ.o.few.own fV.o.size (ah _) (gA.o.on fV.o) (iF e0.o) ?_;rintro x ⟨hS,hT,hU⟩ p8 p9 pA pB p2 p3 p4 p5 p6 p7 kA h9 l2 e4;have bA:=d (fV.o.trans kA);have bB:=d l2;have bC:=d (h9 _ _ _ (by decide) (by omega) h7.o);have bE:=d (h9 _ _ _ (by decide) (by omega) j9.o);have bI:=d (show mq x (ownIn b (u,F) p) (cM,cR,cS) (cT,I,cU) (cV,cW,cX) (cN,cP,cQ) (hS,hT,hU) from ⟨w1,_,e4⟩);clear kA h9 l2 e4 fV lO h7 j9 i1;have lP:=d (bA.o);have g0:=d (bB.o);have i7:=d (bC.o);have j5:=d (bE.o);have g1:=d (bI.o);clear bA bB bC bE bI;obtain⟨me,hC⟩:∃ me,me=b.me:=⟨_,rfl⟩;have h1:=d hC;rw [<- hC] at g0;clear hC;obtain⟨lA,fL⟩:∃ n,n=b.dQ.length:=⟨_,rfl⟩;have f6:=d fL;have mW:=d (show I=lA from by
   obtain⟨l,d0,b2⟩:=g1.o.br.dQ;rw [fL];exact (lT d0).symm.trans b2.len)
  have j3:=d (show lA<=900 from by rw [fL]; exact cJ.o.few.dQ);clear fL;have oE:=mW.o;subst oE;obtain⟨b4,b5,b6,b7,b8,b9⟩:=g0.o.fA;go_wp2_with fail;clear b4 b5 b6 b7 b8 b9
  go_loopw [10,11,38] (fun v q i wr=>∃ (k:Nat) (bM:OA) (c7 c8:Nat) (c9:OA) (cA cC:Nat) (cD:OA) (cF cG:Nat) (bO:OA) (bP bT:Nat) (bW:OA) (bX c6:Nat) (d1:List nu),k<=I/\i=O U k/\Below w.heap.size w wr/\dN wr w.heap.size #[O U me,J bM c7 c8,J c9 cA cC,J cD cF cG,J bO bP bT,J bW bX c6] 30/\dN wr (w.heap.size+1) #[O U u,O U F] 23/\dN wr (w.heap.size+1+1) #[O U 0,J aj 0 0,J aj 0 0,J aj 0 0,J aj 0 0,J aj 0 0] 30/\mq wr (ownIn b (u,F) p) (cM,cR,cS) (cT,I,cU) (cV,cW,cX) (cN,cP,cQ) (hS,hT,hU)/\mq wr (fu b.dQ (iK (u,F) p) ((ownIn b (u,F) p),[]) k).1 (bM,c7,c8) (c9,cA,cC) (cD,cF,cG) (bO,bP,bT) (bW,bX,c6)/\sP wr w.heap.size v d1 (fu b.dQ (iK (u,F) p) ((ownIn b (u,F) p),[]) k).2) (fun _ _ i _=>I-(intOf i).toNat)
  case atStart=>exact⟨0,cM,cR,cS,cT,I,cU,cV,cW,cX,cN,cP,cQ,hS,hT,hU,[],aG _,rfl,lP.o,g0.o,i7.o,j5.o,g1.o,g1.o,(sP.nil _ _)⟩
  case round =>
   clear lP g0 i7 j5 g1;obtain⟨k,bM,c7,c8,c9,cA,cC,cD,cF,cG,bO,bP,bT,bW,bX,c6,d1,kO,rfl,kE,l3,l4,l5,e3,kB,d9⟩:=hrel;have fX:=d (kE);have gC:=d (l3);have j6:=d (l4);have d2:=d (l5);have hY:=d (e3);have gE:=d (kB);have fY:=d (d9);clear kE l3 l4 l5 e3 kB d9;have m9:=m8.o k (by rw [<- f6.o]; exact kO);obtain⟨kK,l0⟩:=m9;have d4:=d kK;have mT:=d (show (fu b.dQ (iK (u,F) p) ((ownIn b (u,F) p),[]) k).2.length<=1000000 from au l0 (by have:=j3.o; omega));clear kK l0;by_cases hA:k<I
   ·have pM:(k:Int)<(I:Int):=by omega
    have pN:IntKind.i64.wrap ((k:Int)+1)=(k:Int)+1:=IntWalk.i64_in _ (by have:=j3.o; omega);obtain⟨a,f8⟩:∃ a,b.dQ[k]?=aJ a:=⟨_,aB (by rw [<- f6.o]; exact hA)⟩;have jD:=d (show (fu b.dQ (iK (u,F) p) ((ownIn b (u,F) p),[]) (k+1))=_ from (nM (iK (u,F) p) ((ownIn b (u,F) p),[]) f8).trans (RJ (u,F) p _ a));have mV:=d (cJ.o.pa a (aF f8));obtain⟨la,d7,d8⟩:=hY.o.br.dQ;obtain⟨z,l6,fN⟩:=d8.at k a f8;obtain⟨pP,o3,lK⟩:=Mv d7 rfl (lT d7) l6;obtain⟨lB,lD,lE,lJ⟩:=lK wr (aH _ _);obtain⟨eS,eV,⟨f1,f0,eW⟩,d5⟩:=z;have n7:=d (show (eS,eV)=a.id from fN.1);have n8:=d (show d5=a.par from fN.2.1);have j8:=d (show fO wr (J f1 f0 eW) a.p from fN.2.2);simp only at lB lD lE lJ;clear lK l6 fN d7 d8 la f8;go_upto_region 10 with fail;clear lB lD lE lJ o3;have cL:=fP wr (ay #[O U eS,O U eV,J f1 f0 eW,O U d5] 36);have fS:=d (fX.o.trans (cL.mono fX.o.size));have iG:=d (gC.o.on cL);have iS:=d (j6.o.on cL);have j7:=d (d2.o.on cL);have i6:=d (hY.o.on cL);have i9:=d (gE.o.on cL);have i4:=d (fY.o.on cL);have gR:=d (j8.o.on cL);clear fX gC j6 d2 hY gE fY j8;have gI:=d (dR wr #[O U eS,O U eV,J f1 f0 eW,O U d5] 36);clear cL;generalize wr.alloc (ay #[O U eS,O U eV,J f1 f0 eW,O U d5] 36)=oR at *;generalize wr.heap.size=nS at *;obtain⟨o4,hD⟩:∃ r,jG p a.p=r:=⟨_,rfl⟩;have h2:=d (aeA (J po eR eQ) (J f1 f0 eW) p a.p oR (gA.o.on fS.o) gR.o e0.o mV.o);rw [hD] at h2;have f5:=d jD.o;rw [hD] at f5;clear hD jD;obtain⟨z0,hZ,i0,z3⟩:=gI.o.Ib;go_wp2_with fail;refine h2.o.mono ?_;rintro pH oS ⟨rfl,G⟩;clear h2;clear z0 hZ i0 z3;have dA:=d (fS.o.trans (G.mono fS.o.size));have fW:=d (iG.o.on G);have f4:=d (iS.o.on G);have gS:=d (j7.o.on G);have g3:=d (i6.o.on G);have e1:=d (i9.o.on G);have g4:=d (i4.o.on G);have jI:=d (gR.o.on G);have h0:=d (gI.o.on G);clear fS iG iS j7 i6 i9 i4 gR gI;clear G;cases o4
    ·have d6:=d (show (fu b.dQ (iK (u,F) p) ((ownIn b (u,F) p),[]) (k+1))=(fu b.dQ (iK (u,F) p) ((ownIn b (u,F) p),[]) k) from by rw [f5.o]; rfl);go_wp2_with fail
     go_roundw
     case rel=>exact⟨k+1,bM,c7,c8,c9,cA,cC,cD,cF,cG,bO,bP,bT,bW,bX,c6,d1,hA,by go_num,dA.o,fW.o,f4.o,gS.o,g3.o,by rw [d6.o]; exact e1.o,by rw [d6.o]; exact g4.o⟩
     case measure=>simp [intOf]; omega
    ·have d6:=d (show (fu b.dQ (iK (u,F) p) ((ownIn b (u,F) p),[]) (k+1))=((iP (fu b.dQ (iK (u,F) p) ((ownIn b (u,F) p),[]) k).1 a.par (lC (u,F) p a)).1,(fu b.dQ (iK (u,F) p) ((ownIn b (u,F) p),[]) k).2++(iP (fu b.dQ (iK (u,F) p) ((ownIn b (u,F) p),[]) k).1 a.par (lC (u,F) p a)).2) from by rw [f5.o]; rw [if_neg (by simp)]);clear f5;obtain⟨b4,b5,b6,b7,b8,b9⟩:=fW.o.fA;obtain⟨z0,hZ,i0,z3⟩:=h0.o.Ib;obtain⟨o1,o2⟩:=f4.o.cs2;have g2:=d (J8 (fu b.dQ (iK (u,F) p) ((ownIn b (u,F) p),[]) k).1 bM c7 c8 c9 cA cC cD cF cG bO bP bT bW bX c6 d5 eS eV u F po eR eQ (-1) false (lC (u,F) p a) oS ⟨e1.o.br,e1.o.no⟩ ⟨n7.o,rfl,rfl,rfl,gA.o.on dA.o⟩ (ajz d4.o cJ.o (by rw [<- f6.o]; exact kO) mL.o) (aex d4.o cJ.o e0.o) d4.o.ok.ent d4.o.pe e0.o);rw [<- n8.o] at d6;rw [show (fu b.dQ (iK (u,F) p) ((ownIn b (u,F) p),[]) k).1.me=me from d4.o.at_.me.trans h1.o.symm] at g2;go_wp2_with fail;refine g2.o.mono ?_;rintro pL m0 ⟨⟨⟨e5,eC,eE⟩,⟨eI,eJ,eK⟩,⟨eL,eM,eN⟩,⟨e6,e7,e8⟩,⟨e9,eA,eB⟩,⟨oK,u2,u3⟩,l8,rfl,nW,e3,d9⟩,G⟩;clear g2;clear b4 b5 b6 b7 b8 b9 z0 hZ i0 z3 o1 o2;have i2:=d (e3 e1.o);have j4:=d (d9.le dA.o.size);have mU:=d d9.len;clear nW e3 d9;clear e1;have j0:=d (dA.o.trans (G.mono dA.o.size));have cH:=d (fW.o.on G);have k3:=d (f4.o.on G);have k4:=d (gS.o.on G);have k5:=d (g3.o.on G);have k6:=d (g4.o.on G);have n9:=d (jI.o.on G);have k7:=d (h0.o.on G);clear dA fW f4 gS g3 g4 jI h0;clear G;rw [show (iP (fu b.dQ (iK (u,F) p) ((ownIn b (u,F) p),[]) k).1 d5 (lC (u,F) p a)).1.me=me from by rw [show (iP (fu b.dQ (iK (u,F) p) ((ownIn b (u,F) p),[]) k).1 d5 (lC (u,F) p a)).1.me=(fu b.dQ (iK (u,F) p) ((ownIn b (u,F) p),[]) k).1.me from (je _ _).1]; exact d4.o.at_.me.trans h1.o.symm];have p1:=d (show nS≠w.heap.size from fun e=>by have d0:=k7.o; have b2:=cH.o; unfold dN at d0 b2; rw [e] at d0; rw [d0] at b2; injection b2 with b2; injection b2 with b2; simp at b2);obtain⟨dC,hG,hH,hI,hJ,hK⟩:=cH.o.fA;obtain⟨hM,hN,hO,hP,hQ,hR⟩:=cH.o.kg;have f2:=cH.o.lt;have H:=ak m0 w.heap.size (O U me) (J e5 eC eE) (J eI eJ eK) (J eL eM eN) (J e6 e7 e8) (J e9 eA eB);have bA:=d (dJ (b:=w.heap.size) j0.o (ah _) (O U me) (J e5 eC eE) (J eI eJ eK) (J eL eM eN) (J e6 e7 e8) (J e9 eA eB));have bB:=d (H.box k3.o (by omega));have bC:=d (H.box k4.o (by omega));have bE:=d (k5.o.uO H cH.o (by decide) (by decide) (by decide) (by decide) (by decide) (by decide));have bI:=d (i2.o.uO H cH.o (by decide) (by decide) (by decide) (by decide) (by decide) (by decide));have g5:=d (k6.o.but H cH.o (by decide) (by decide));have g6:=d (j4.o.but H cH.o (by decide) (by decide));have g7:=d (dM cH.o (O U me) (J e5 eC eE) (J eI eJ eK) (J eL eM eN) (J e6 e7 e8) (J e9 eA eB));clear H j0 k3 k4 k5 i2 k6 j4 cH;go_upto_region 12 with fail;clear f2 dC hG hH hI hJ hK hM hN hO hP hQ hR;unfold gH at bA bB bC bE bI g5 g6 g7;generalize ((((((m0.setCell ⟨w.heap.size,0,aj⟩ (O U me)).setCell ⟨w.heap.size,1,aj⟩ (J e5 eC eE)).setCell ⟨w.heap.size,2,aj⟩ (J eI eJ eK)).setCell ⟨w.heap.size,3,aj⟩ (J eL eM eN)).setCell ⟨w.heap.size,4,aj⟩ (J e6 e7 e8)).setCell ⟨w.heap.size,5,aj⟩ (J e9 eA eB))=oT at *;have hL:=d (bA.o);have nA:=d (bB.o);have nB:=d (bC.o);have nF:=d (bE.o);have nH:=d (bI.o);have cI:=d (g5.o);have k8:=d (g6.o);have nL:=d (g7.o);clear bA bB bC bE bI g5 g6 g7;clear k7 n9;have j2:l8.length<=1000000:=by rw [mU.o]; exact au (Xl _ _ _) (by decide)
     have j1:d1.length<=1000000:=by rw [cI.o.len]; exact mT.o
     obtain⟨oL,n6,hE,kQ,cY⟩:=uh Ic w.heap.size cI.o.row (Row.dL k8.o.row) j1 j2 hL.o.size 37;have mI:=d (cI.o.more cY kQ k8.o.all);have mY:=d (hL.o.grown cY hL.o.size fun j nX=>(cI.o.row.lt j nX).1);have mZ:=d (mE cI.o.row cY nL.o (by decide));have n0:=d (mE cI.o.row cY nA.o (by decide));have n1:=d (mE cI.o.row cY nB.o (by decide));have n2:=d (mq.app cI.o.row cY nF.o);have n3:=d (mq.app cI.o.row cY nH.o);have hE:(Builtin.append_ #[37,37] 37 #[_,J oK u2 u3]).run aK oT=.ok oL n6:=hE;clear j1 j2 kQ cY;go_wp2_with (first | (at_builtin; refine aC rfl _ _ 37 rfl rfl rfl hE ?_) | fail)
     go_roundw
     case rel=>exact⟨k+1,e5,eC,eE,eI,eJ,eK,eL,eM,eN,e6,e7,e8,e9,eA,eB,d1++l8,hA,by go_num,mY.o,mZ.o,n0.o,n1.o,n2.o,by rw [d6.o]; exact n3.o,by rw [d6.o]; exact mI.o⟩
     case measure=>simp [intOf]; omega
   ·obtain rfl:k=I:=by omega
    have mC:=d (show k=b.dQ.length from f6.o);obtain⟨b4,b5,b6,b7,b8,b9⟩:=gC.o.fA;obtain⟨o5,o6,oA,oC,oD,r5⟩:=d2.o.fA;obtain⟨m2,m3,m4,m5,m6,m7⟩:=d2.o.kg;have f2:=d2.o.lt;have H:=ak wr (w.heap.size+1+1) (O U me) (J bM c7 c8) (J c9 cA cC) (J cD cF cG) (J bO bP bT) (J bW bX c6);have g8:=d (dM d2.o (O U me) (J bM c7 c8) (J c9 cA cC) (J cD cF cG) (J bO bP bT) (J bW bX c6));have f3:=d (dJ (b:=w.heap.size+1+1) fX.o (by omega) (O U me) (J bM c7 c8) (J c9 cA cC) (J cD cF cG) (J bO bP bT) (J bW bX c6));have g9:=d (gE.o.uO H d2.o (by decide) (by decide) (by decide) (by decide) (by decide) (by decide));have mH:=d (fY.o.but H d2.o (by decide) (by decide));have mN:=d (show (fu b.dQ (iK (u,F) p) ((ownIn b (u,F) p),[]) k).1.me=me from d4.o.at_.me.trans h1.o.symm);obtain⟨lR,lX,nZ⟩:=(Row.dL fY.o.row).len;subst nZ;clear H;go_wp2_with fail;obtain⟨v0,hV,hW,v3,v4,v5⟩:=g8.o.fA;refine bodyPost_ret (v:=.tuple #[aO #[O U me,J bM c7 c8,J c9 cA cC,J cD cF cG,J bO bP bT,J bW bX c6],J lR d1.length lX]) (by simp [results,aQ,go_sem,v0,hV,hW,v3,v4,v5]) rfl ?_;rw [n4.o,<- mC.o];exact⟨⟨(bM,c7,c8),(c9,cA,cC),(cD,cF,cG),(bO,bP,bT),(bW,bX,c6),(lR,d1.length,lX),d1,by rw [mN.o],⟨g9.o.br,g9.o.no⟩,fun _=>g9.o,mH.o⟩,f3.o⟩
 ·have b4:=T.o.cell 0;have b5:=T.o.cell 1;have b6:=T.o.cell 2;have b7:=T.o.cell 3;have b8:=T.o.cell 4;have b9:=T.o.cell 5;simp only [V,Y,Z] at b4 b5 b6 b7 b8 b9;obtain⟨o5,o6,oA,oC,oD,r5⟩:=d3.o.fA;obtain⟨m2,m3,m4,m5,m6,m7⟩:=d3.o.kg;have f2:=d3.o.lt;have H:=ak w1 (w.heap.size+1+1) (O U b.me) (J s1 s2 s3) (J s4 s5 a7) (J a8 aE b1) (J a1 a2 a6) (J M N S);have g8:=d (dM d3.o (O U b.me) (J s1 s2 s3) (J s4 s5 a7) (J a8 aE b1) (J a1 a2 a6) (J M N S));have f3:=d (dJ (b:=w.heap.size+1+1) fR.o (by omega) (O U b.me) (J s1 s2 s3) (J s4 s5 a7) (J a8 aE b1) (J a1 a2 a6) (J M N S));have mA:=d (gO.o.keep (s1:=(aj,0,0)) (s2:=(aj,0,0)) (s3:=(aj,0,0)) (s4:=(aj,0,0)) (s5:=(aj,0,0)) (me:=0) d3.o H);have mB:=d (fun h:mq w b (s1,s2,s3) (s4,s5,a7) (a8,aE,b1) (a1,a2,a6) (M,N,S)=>h.on f3.o);clear H;have mM:=d (RO p h6.o);go_wp2_with fail;obtain⟨v0,hV,hW,v3,v4,v5⟩:=g8.o.fA;refine bodyPost_ret (v:=.tuple #[aO #[O U b.me,J s1 s2 s3,J s4 s5 a7,J a8 aE b1,J a1 a2 a6,J M N S],J aj 0 0]) (by simp [results,aQ,go_sem,v0,hV,hW,v3,v4,v5]) rfl ?_;rw [mM.o];exact⟨⟨(s1,s2,s3),(s4,s5,a7),(a8,aE,b1),(a1,a2,a6),(M,N,S),(aj,0,0),[],rfl,mA.o,mB.o,sP.nil _ _⟩,f3.o⟩
def amh (_B:Nat) (_ _ _:Nat) (t1 t2 j q:Int) (H:OA) (I M:Nat) (u:OA) (F G:Nat) (has r:List Int) (i:Nat) (v:Value) (x:World):Prop :=
 match i with
 | 0=>v=aO #[O U t1,O U t2]
 | 1=>v=aO #[O U j,O U q]
 | 2=>v=aO #[J H I M,J u F G]
 | 3=>∃ sl:Sl,v=eu sl/\iH x _B (eu sl) ((om has r 7).map r5)
 | 4=>∃ sl:Sl,v=aO #[O U 3,O U t1,O U t2,O U j,O U q,eu sl,J aj 0 0]/\iH x _B (eu sl) ((om has r 7).map r5)
 | 5=>True
 | 6=>True
 | _=>True
noncomputable def agl:Code:=((Tryz.f4.body.bind (eX 5)).getD .skip)
theorem apW (Q:Exit->Act->World->Prop) (W:World) (a7 a8 a6:Nat) (t1 t2 N S:Int) (F:OA) (r b4:Nat) (aE:OA) (b1 b2:Nat) (has b7:List Int) {cU cV u2 u3 f3 f4 u6 u7 h0 u9 cW u11 e2 eV f1 f2 hU bA bB bC bE bI bM bO bP bT bW bX c6 c7 c8 c9 cA cC cD cF cG cH cI cJ cL cM hV hW hX hY hZ f5 f6 f7 f8 f9 fL fN fR fS fV fW fX fY g0 g1 g2 g3 g4 g5 g6 g7 g8 g9 gA gC gE gI gO gR gS h1 h2 h3 h4 h5 h6 h7 h8 h9 hA hC hD hE hF hG hH hI hJ hK hL cX cY d0 d1 d2 d3 d4 d5 d6 d7 d8 d9 dA dC dE dS dT dZ e0 e1 e3 e4 e5 e6 e7 e8 e9 eA eB eC eE eI eJ eK eL eM eN eQ eR eS eW f0:Value}
  (i6:dN W a7 #[O U t1,O U t2] 23) (i7:dN W a8 #[O U N,O U S] 23) (i5:dN W a6 #[J F r b4,J aE b1 b2] 52) (hP:In.lY W (J F r b4) has) (hQ:In.lY W (J aE b1 b2) b7) (hS:has.length<=maxLen) (hT:b7.length<=maxLen)
  (hM:∀ (x:World) (I:Nat) {i0 v46 i1 i2 i4:Value} (T:OA) (a1 a2:Nat),W.heap.size<=I->dN x I #[O U 3,O U t1,O U t2,O U N,O U S,J T a1 a2,J aj 0 0] 43->iH x W.heap.size (J T a1 a2) ((om has b7 7).map r5)->Below W.heap.size W x->Q .normal ⟨(cU::cV::u2::u3::f3::f4::u6::u7::h0::u9::cW::u11::e2::aD (aJ ⟨a6,0,aj⟩)::eV::f1::aD (aJ ⟨a7,0,aj⟩)::aD (aJ ⟨a8,0,aj⟩)::f2::aD (aJ ⟨I,0,aj⟩)::bA::bB::bC::bE::bI::bM::bO::bP::bT::bW::bX::c6::c7::c8::c9::cA::cC::cD::cF::cG::cH::cI::cJ::cL::cM::i0::v46::i1::i2::i4::f5::f6::f7::f8::f9::fL::fN::fR::fS::fV::fW::fX::fY::g0::g1::g2::g3::g4::g5::g6::g7::g8::g9::gA::gC::gE::gI::gO::gR::gS::h1::h2::h3::h4::h5::h6::h7::h8::h9::hA::hC::hD::hE::hF::hG::hH::hI::hJ::hK::hL::cX::cY::d0::d1::d2::d3::d4::d5::d6::d7::d8::d9::dA::dC::dE::dS::dT::dZ::e0::e1::e3::e4::e5::e6::e7::e8::e9::eA::eB::eC::eE::eI::eJ::eK::eL::eM::eN::eQ::eR::eS::eW::f0::[]).toArray,[]⟩ x) :
  Code.wp aK agl Q ⟨(cU::cV::u2::u3::f3::f4::u6::u7::h0::u9::cW::u11::e2::aD (aJ ⟨a6,0,aj⟩)::eV::f1::aD (aJ ⟨a7,0,aj⟩)::aD (aJ ⟨a8,0,aj⟩)::f2::hU::bA::bB::bC::bE::bI::bM::bO::bP::bT::bW::bX::c6::c7::c8::c9::cA::cC::cD::cF::cG::cH::cI::cJ::cL::cM::hV::hW::hX::hY::hZ::f5::f6::f7::f8::f9::fL::fN::fR::fS::fV::fW::fX::fY::g0::g1::g2::g3::g4::g5::g6::g7::g8::g9::gA::gC::gE::gI::gO::gR::gS::h1::h2::h3::h4::h5::h6::h7::h8::h9::hA::hC::hD::hE::hF::hG::hH::hI::hJ::hK::hL::cX::cY::d0::d1::d2::d3::d4::d5::d6::d7::d8::d9::dA::dC::dE::dS::dT::dZ::e0::e1::e3::e4::e5::e6::e7::e8::e9::eA::eB::eC::eE::eI::eJ::eK::eL::eM::eN::eQ::eR::eS::eW::f0::[]).toArray,[]⟩ W:=by
 have cP:=d hM;have iG:=d i6;have iS:=d i7;have i9:=d i5;have j0:=d hP;have j1:=d hQ;have j2:=d hS;have j3:=d hT;clear hM i6 i7 i5 hP hQ hS hT;unfold agl
 conv=>arg 2; whnf
 have j6:∀ i,i<7->[45,46,47,48,49,19,19].getD i 0≠13:=by decide
 have j7:∀ i,i<7->[45,46,47,48,49,19,19].getD i 0≠16:=by decide
 have j8:∀ i,i<7->[45,46,47,48,49,19,19].getD i 0≠17:=by decide
 refine Rg.xq 7 5 6 4 (fun i=>[45,46,47,48,49,19,19].getD i 0) (fun i=>7) (amh W.heap.size a7 a8 a6 t1 t2 N S F r b4 aE b1 b2 has b7) 43 #[O U 0,O U 0,O U 0,O U 0,O U 0,J aj 0 0,J aj 0 0] (fun v=>match v with | aO c=>c | _=>#[]) (by kernel_rfl) (by kernel_rfl) rfl (by decide) (by decide) (by decide) (by decide) (by decide) (by decide) (by decide) (fun i j q cR F r h=>(by decide:∀ i,i<7->∀ j,j<7->i≠6->j≠6->[45,46,47,48,49,19,19].getD i 0=[45,46,47,48,49,19,19].getD j 0->i=j) i q j cR F r h) (fun i q=>(by decide:∀ i,i<7->[45,46,47,48,49,19,19].getD i 0<142) i q) ?_ ?_ ?_ ?_ ?_ ?_
 ·intro i v x m7 q h G;rcases (by omega:i=0\/i=1\/i=2\/i=3\/i=4\/i=5\/i=6) with rfl|rfl|rfl|rfl|rfl|rfl|rfl
  ·exact h
  ·exact h
  ·exact h
  ·obtain⟨s,F,r⟩:=h; exact⟨s,F,Bk.dK r G⟩
  ·obtain⟨s,F,r⟩:=h; exact⟨s,F,Bk.dK r G⟩
  ·exact h
  ·exact h
 ·intro o H;cases H;exact⟨⟨⟨5,.data⟩,by simp,rfl,rfl⟩,⟨⟨4,.data⟩,by simp,rfl,rfl⟩⟩
 ·intro i o q m0 lL H a x G seen K M;clear cP;rcases (by omega:i=0\/i=1\/i=2\/i=3\/i=4) with rfl|rfl|rfl|rfl|rfl
  ·cases H;have jB:a.eval (.tmp 16)=aD (aJ ⟨a7,0,aj⟩):=seen.kp 16 _ j7 rfl;obtain⟨b8,b9⟩:=(iG.o.on G).cs2;exact Rg.dI rfl rfl (Rg.dW a.eval _ 23 (.tmp 16) rfl (by rw [jB]; simp [go_sem,b8,b9])) (M _ x rfl (aH _ _))
  ·cases H;have jD:a.eval (.tmp 17)=aD (aJ ⟨a8,0,aj⟩):=seen.kp 17 _ j8 rfl;obtain⟨b8,b9⟩:=(iS.o.on G).cs2;exact Rg.dI rfl rfl (Rg.dW a.eval _ 23 (.tmp 17) rfl (by rw [jD]; simp [go_sem,b8,b9])) (M _ x rfl (aH _ _))
  ·cases H;have j9:a.eval (.tmp 13)=aD (aJ ⟨a6,0,aj⟩):=seen.kp 13 _ j6 rfl;obtain⟨b8,b9⟩:=(i9.o.on G).cs2;exact Rg.dI rfl rfl (Rg.dW a.eval _ 52 (.tmp 13) rfl (by rw [j9]; simp [go_sem,b8,b9])) (M _ x rfl (aH _ _))
  ·cases H;have jY:a.eval (.tmp 47)=aO #[J F r b4,J aE b1 b2]:=seen.at_ ⟨2,.data⟩ (by simp) rfl (by decide) (by decide) (Or.inr (by decide));exact Rg.gK rfl rfl (Rw.jq a.eval _ (.tmp 47) 52 15 rfl jY rfl _ (gB Tryz.func15 rfl rfl _ _)) (Nw (J F r b4) (J aE b1 b2) has b7 x (j0.o.on G) (j1.o.on G) j2.o j3.o) fun e w1 h=>by
    obtain⟨v,rfl,b6,k7⟩:=h;obtain⟨j4,j5,hO⟩:=(Row.dL b6).len;exact⟨_,rfl,M _ _ ⟨(j4,_,j5),hO,by rw [hO] at b6; exact dO b6 G.size⟩ k7⟩
  ·cases H;have jI:a.eval (.tmp 45)=aO #[O U t1,O U t2]:=seen.at_ ⟨0,.data⟩ (by simp) rfl (by decide) (by decide) (Or.inr (by decide));have jV:a.eval (.tmp 46)=aO #[O U N,O U S]:=seen.at_ ⟨1,.data⟩ (by simp) rfl (by decide) (by decide) (Or.inr (by decide));have i8:=seen.at_ ⟨3,.data⟩ (by simp) rfl (by decide) (by decide) (Or.inr (by decide));obtain⟨s,cT,b6⟩:=i8;have cT:a.eval (.tmp 48)=eu s:=cT;exact Rg.dI rfl rfl (Rg.jd a.eval _ 43 #[(0,.const (O U 3)),(1,.tmp 45),(2,.tmp 46),(3,.tmp 48)] rfl (ps:=#[(0,O U 3),(1,aO #[O U t1,O U t2]),(2,aO #[O U N,O U S]),(3,eu s)]) (by simp only [List.map_toArray,List.map_cons,List.map_nil,jI,jV,cT]; rfl) (by simp [go_sem])) (M _ x ⟨s,rfl,b6⟩ (aH _ _))
 ·intro o H a x K M;cases H;exact Rg.dI rfl rfl (Rg.zA a.eval _ 43 rfl (by simp [go_sem])) M
 ·intro o H a x I v D lR lP G k2 k3 cN cQ b5 K M;clear cP;cases H;obtain⟨⟨T,a1,a2⟩,cS,hN⟩:=cN;subst cS;have hR:=Go.Proofs.YtghlpefopidlaaaGreat.Fl.Pt x I (O U 3) (O U t1) (O U t2) (O U N) (O U S) (J T a1 a2) (J aj 0 0);refine Rg.gq 43 (.tmp 19) (.tmp 49) rfl rfl rfl rfl k2 k3 (w':=I8 x I (O U 3) (O U t1) (O U t2) (O U N) (O U S) (J T a1 a2) (J aj 0 0)) (Un b5 _ _ _ _ _ _ _ _ _ _ _) (M _ (CX G cQ _ _ _ _ _ _ _) (Az b5 _ _ _ _ _ _ _) ?_);exact fun j u cR m1 m2 lX m4 m3 h=>by
   rcases (by omega:j=0\/j=1\/j=2\/j=3\/j=4) with rfl|rfl|rfl|rfl|rfl
   ·have r:u=aO #[O U t1,O U t2]:=h; exact r
   ·have r:u=aO #[O U N,O U S]:=h; exact r
   ·have r:u=aO #[J F r b4,J aE b1 b2]:=h; exact r
   ·obtain⟨s,F,r⟩:=h; exact⟨s,F,hR.own r b5 (by decide)⟩
   ·obtain⟨s,F,r⟩:=h; exact⟨s,F,hR.own r b5 (by decide)⟩
 ·intro a x I v df sz kp k1 lO cQ b5 cN k4 ⟨m6,m5⟩;obtain⟨⟨T,a1,a2⟩,cS,hN⟩:=cN;subst cS;have k0:a.tmps[19]?=aJ (aD (aJ ⟨I,0,aj⟩)):=k1;have k8:∀ j,(j<19\/50<=j)->a.tmps[j]?=(cU::cV::u2::u3::f3::f4::u6::u7::h0::u9::cW::u11::e2::aD (aJ ⟨a6,0,aj⟩)::eV::f1::aD (aJ ⟨a7,0,aj⟩)::aD (aJ ⟨a8,0,aj⟩)::f2::hU::bA::bB::bC::bE::bI::bM::bO::bP::bT::bW::bX::c6::c7::c8::c9::cA::cC::cD::cF::cG::cH::cI::cJ::cL::cM::hV::hW::hX::hY::hZ::f5::f6::f7::f8::f9::fL::fN::fR::fS::fV::fW::fX::fY::g0::g1::g2::g3::g4::g5::g6::g7::g8::g9::gA::gC::gE::gI::gO::gR::gS::h1::h2::h3::h4::h5::h6::h7::h8::h9::hA::hC::hD::hE::hF::hG::hH::hI::hJ::hK::hL::cX::cY::d0::d1::d2::d3::d4::d5::d6::d7::d8::d9::dA::dC::dE::dS::dT::dZ::e0::e1::e3::e4::e5::e6::e7::e8::e9::eA::eB::eC::eE::eI::eJ::eK::eL::eM::eN::eQ::eR::eS::eW::f0::[])[j]?:=fun j cR=>(kp j (fun i q h=>by have:=(by decide:∀ i,i<7->19<=[45,46,47,48,49,19,19].getD i 0/\[45,46,47,48,49,19,19].getD i 0<50) i q; omega)).trans V;obtain⟨k6,k5,rfl⟩:=Rg.gG 19 31 df sz (by simp) k8
  match k6,k5 with
  | k9::kA::kB::v22::kE::kK::kO::kQ::l0::v28::l1::l2::l3::l4::l5::l6::l7::l8::l9::lA::lB::v40::lD::lE::lJ::lK::i0::v46::i1::i2::i4::[],_ =>
   obtain rfl:k9=aD (aJ ⟨I,0,aj⟩):=L k0;obtain rfl:kA=bA:=L (kp 20 (fun i q h=>(by decide:∀ i,i<7->[45,46,47,48,49,19,19].getD i 0≠20) i q h));obtain rfl:kB=bB:=L (kp 21 (fun i q h=>(by decide:∀ i,i<7->[45,46,47,48,49,19,19].getD i 0≠21) i q h));obtain rfl:v22=bC:=L (kp 22 (fun i q h=>(by decide:∀ i,i<7->[45,46,47,48,49,19,19].getD i 0≠22) i q h));obtain rfl:kE=bE:=L (kp 23 (fun i q h=>(by decide:∀ i,i<7->[45,46,47,48,49,19,19].getD i 0≠23) i q h));obtain rfl:kK=bI:=L (kp 24 (fun i q h=>(by decide:∀ i,i<7->[45,46,47,48,49,19,19].getD i 0≠24) i q h));obtain rfl:kO=bM:=L (kp 25 (fun i q h=>(by decide:∀ i,i<7->[45,46,47,48,49,19,19].getD i 0≠25) i q h));obtain rfl:kQ=bO:=L (kp 26 (fun i q h=>(by decide:∀ i,i<7->[45,46,47,48,49,19,19].getD i 0≠26) i q h));obtain rfl:l0=bP:=L (kp 27 (fun i q h=>(by decide:∀ i,i<7->[45,46,47,48,49,19,19].getD i 0≠27) i q h));obtain rfl:v28=bT:=L (kp 28 (fun i q h=>(by decide:∀ i,i<7->[45,46,47,48,49,19,19].getD i 0≠28) i q h));obtain rfl:l1=bW:=L (kp 29 (fun i q h=>(by decide:∀ i,i<7->[45,46,47,48,49,19,19].getD i 0≠29) i q h));obtain rfl:l2=bX:=L (kp 30 (fun i q h=>(by decide:∀ i,i<7->[45,46,47,48,49,19,19].getD i 0≠30) i q h));obtain rfl:l3=c6:=L (kp 31 (fun i q h=>(by decide:∀ i,i<7->[45,46,47,48,49,19,19].getD i 0≠31) i q h));obtain rfl:l4=c7:=L (kp 32 (fun i q h=>(by decide:∀ i,i<7->[45,46,47,48,49,19,19].getD i 0≠32) i q h));obtain rfl:l5=c8:=L (kp 33 (fun i q h=>(by decide:∀ i,i<7->[45,46,47,48,49,19,19].getD i 0≠33) i q h));obtain rfl:l6=c9:=L (kp 34 (fun i q h=>(by decide:∀ i,i<7->[45,46,47,48,49,19,19].getD i 0≠34) i q h));obtain rfl:l7=cA:=L (kp 35 (fun i q h=>(by decide:∀ i,i<7->[45,46,47,48,49,19,19].getD i 0≠35) i q h));obtain rfl:l8=cC:=L (kp 36 (fun i q h=>(by decide:∀ i,i<7->[45,46,47,48,49,19,19].getD i 0≠36) i q h));obtain rfl:l9=cD:=L (kp 37 (fun i q h=>(by decide:∀ i,i<7->[45,46,47,48,49,19,19].getD i 0≠37) i q h));obtain rfl:lA=cF:=L (kp 38 (fun i q h=>(by decide:∀ i,i<7->[45,46,47,48,49,19,19].getD i 0≠38) i q h));obtain rfl:lB=cG:=L (kp 39 (fun i q h=>(by decide:∀ i,i<7->[45,46,47,48,49,19,19].getD i 0≠39) i q h));obtain rfl:v40=cH:=L (kp 40 (fun i q h=>(by decide:∀ i,i<7->[45,46,47,48,49,19,19].getD i 0≠40) i q h));obtain rfl:lD=cI:=L (kp 41 (fun i q h=>(by decide:∀ i,i<7->[45,46,47,48,49,19,19].getD i 0≠41) i q h));obtain rfl:lE=cJ:=L (kp 42 (fun i q h=>(by decide:∀ i,i<7->[45,46,47,48,49,19,19].getD i 0≠42) i q h));obtain rfl:lJ=cL:=L (kp 43 (fun i q h=>(by decide:∀ i,i<7->[45,46,47,48,49,19,19].getD i 0≠43) i q h));obtain rfl:lK=cM:=L (kp 44 (fun i q h=>(by decide:∀ i,i<7->[45,46,47,48,49,19,19].getD i 0≠44) i q h));exact cP.o x I T a1 a2 cQ b5 hN k4
end Rt
namespace Sb
open Go.RowKit Go.Sort Rw YtghlpefopidlaaaGreat.Nm Pr Bk Av Rl
abbrev tA (m:List En) (a:Ad):Bool:=a.par == -1 || yS (qb m a.id)
theorem Si (b:Br) (cD av cL bM cH:Sl) (w:World) (h:iT w b cD av cL bM cH) (d1:kD b.ent) (cX:b.ent.length<=1000) (d0:∀ e∈b.ent,dX e.p) :
  Calls aK 25 #[mg b.me cD av cL bM cH] w fun e w'=>e=.returned (.bool (Lp b))/\Below w.heap.size w w':=by
 obtain⟨no,cC,cA⟩:=cD;obtain⟨bE,G,bC⟩:=av;obtain⟨cJ,cI,sc⟩:=cL;obtain⟨a2,a1,T⟩:=bM;obtain⟨cG,bI,cF⟩:=cH;obtain⟨la,b5,cT⟩:=h.dQ;obtain⟨le,cW,bT⟩:=h.ent;have M:=fP w (ay #[O U b.me,J no cC cA,J bE G bC,J cJ cI sc,J a2 a1 T,J cG bI cF] 30);have X:=dR w #[O U b.me,J no cC cA,J bE G bC,J cJ cI sc,J a2 a1 T,J cG bI cF] 30;have B:=d M;have dC:=d (b5.on M);have b7:=d (cT.mono fun _ _ q=>q.on M);have cQ:=d (cW.on M);have cR:=d (bT.mono fun _ _ q=>q.on M);have e3:=d X;have cM:=X.cell 2;simp only [V,Y,Z] at cM;have bX:=lT b5;have d3:=b5.most;unfold maxLen at d3;rw [bX] at d3;have b2:=d bX;have dZ:=d d1;have dT:=d (show le.length<=1000 by rw [bT.len]; exact cX);have e2:=d d0;obtain⟨d9,c7⟩:∃ r,Lp b=r:=⟨_,rfl⟩;rw [c7];have cS:=d c7;clear M X b5 cT cW bT h bX d1 cX d0 c7;go_enter Tryz.func25,Tryz.ntmps25;go_upto_region 1 with fail;generalize w.alloc (ay #[O U b.me,J no cC cA,J bE G bC,J cJ cI sc,J a2 a1 T,J cG bI cF] 30)=W at *;go_wp2
 go_loopw [8] (fun i wr=>∃ k:Nat,k<=G/\i=O U k/\Below W.heap.size W wr/\∀ (j:Nat) (y:Ad),j<k->b.dQ[j]?=aJ y->tA b.ent y=true) (fun i _=>G-(intOf i).toNat)
 case atStart=>exact⟨0,aG _,rfl,aH _ _,fun j y h=>by omega⟩
 case round =>
  obtain⟨k,eE,rfl,cV,cU⟩:=hrel;have aE:=d cV;have b8:=d cU;clear cV cU;by_cases cY:k<G
  ·obtain⟨y,c9⟩:∃ y,la[k]?=aJ y:=⟨_,aB (by rw [b2.o]; exact cY)⟩;obtain⟨q,e6,d8⟩:=Mv dC.o rfl b2.o c9;obtain⟨d4,d5,d6,d7⟩:=d8 wr aE.o;obtain⟨a,bO⟩:∃ a,b.dQ[k]?=aJ a:=⟨_,aB (by rw [<- b7.o.len,b2.o]; exact cY)⟩;obtain⟨b6,d2,c8⟩:=b7.o.at k a bO;rw [c9] at d2;obtain rfl:=L d2;obtain⟨u,F,⟨e9,e8,e7⟩,S⟩:=y;simp only at d4 d5 d6 d7;have e1:=d (fP wr (ay #[O U u,O U F,J e9 e8 e7,O U S] 36));have H:=d (aE.o.trans (e1.o.mono aE.o.size));have dA:=(e3.o.on H.o).cell 4;simp only [V,Y,Z] at dA;have eI:IntKind.i64.wrap ((k:Int)+1)=(k:Int)+1:=IntWalk.i64_in _ (by omega);have b9:=d bO;have bA:=d (show ((u,F):fB)=a.id/\S=a.par from ⟨c8.1,c8.2.1⟩);clear d8 c9 bO c8 cM;by_cases N:S=-1
   ·have e5:(S != -1)=false:=by simp [N]
    have b4:=d (show tA b.ent a=true by unfold tA; rw [<- bA.o.2,N]; rfl);clear N;go_wp2
    go_roundw
    case rel=>exact⟨k+1,by omega,by go_num,H.o,fun j b6 bW a6=>by
     rcases aR j k with a7|a7
     ·exact b8.o j b6 a7 a6
     ·obtain rfl:j=k:=by omega
      have I:=b9.o;rw [a6] at I;rw [L I];exact b4.o⟩
    case measure=>simp [intOf]; omega
   ·have e5:(S != -1)=true:=by simp [N]
    obtain⟨t,c6⟩:∃ r,yS (qb b.ent (u,F))=r:=⟨_,rfl⟩;have b4:=d (show tA b.ent a=t by
     unfold tA;rw [<- bA.o.2,<- bA.o.1,c6,show (S == -1)=false by simpa using N,Bool.false_or])
    have cP:=d (yX (a2,a1,T) le b.ent (u,F) _ (cQ.o.on H.o) (cR.o.mono fun _ _ q=>q.on H.o) dZ.o dT.o);obtain⟨c1,c2⟩:=ZW cQ.o cR.o (u,F);have dE:=d c1;have dS:=d c2;generalize cutV (a2,a1,T) (jC b.ent (u,F)) (qb b.ent (u,F)).length=z at *;obtain⟨eA,eB,z3⟩:=z;have e0:=d c6;clear N c1 c2 c6;go_wp2_with fail;refine cP.o.mono ?_;rintro I w1 ⟨rfl,a8⟩;have b1:=d (H.o.trans (a8.mono H.o.size));have bB:=d (Wp (eA,eB,z3) _ (qb b.ent (u,F)) w1 (dE.o.on b1.o) (dS.o.mono fun _ _ q=>q.on b1.o) (fun e e4=>e2.o e (ZY _ _ e e4)));rw [e0.o] at bB;clear a8 cP dA d4 d5 d6 d7 e6;go_wp2_with fail;refine bB.o.mono ?_;rintro eC eJ ⟨rfl,a8⟩;have cN:=d (b1.o.trans (a8.mono b1.o.size));clear a8 bB;cases t
    ·have bP:=d (show d9=false by rw [<- cS.o]; exact ZV (tA b.ent) b9.o b4.o);go_wp2;go_ret;exact⟨by rw [bP.o]; rfl,B.o.trans (cN.o.mono B.o.size)⟩
    ·go_wp2
     go_roundw
     case rel=>exact⟨k+1,by omega,by go_num,cN.o,fun j b6 bW a6=>by
      rcases aR j k with a7|a7
      ·exact b8.o j b6 a7 a6
      ·obtain rfl:j=k:=by omega
       have I:=b9.o;rw [a6] at I;rw [L I];exact b4.o⟩
     case measure=>simp [intOf]; omega
  ·obtain rfl:G=k:=by omega
   have bP:=d (show d9=true by rw [<- cS.o]; exact ZU (tA b.ent) fun j y bW h=>b8.o j y (by rw [<- b2.o,b7.o.len]; exact bW) h);clear cM;go_wp2;go_ret;exact⟨by rw [bP.o]; rfl,B.o.trans (aE.o.mono B.o.size)⟩
end Sb
end Go.Proofs.YtghlpefopidlaaaGreat
