/-
  Copy of package adve. Conditions as told.
-/
import Derived.Test.YtghlpefopidlaaaGreatDQ009
import Derived.Test.YtghlpefopidlaaaGreatDQ008
import Derived.Laws.IdiomCopy
import Derived.Test.YtghlpefopidlaaaGreatDQ007
set_option maxRecDepth 100000
set_option maxHeartbeats 64000000
open _root_.Bool renaming false->aP,true->bU
open _root_.Go renaming World->au,Value->aO,TypeId->aT,bodyPost_ret->aZ,Calls->bF
open Go.Builtin renaming zeroCells->aI,clear_->bJ
open Go.Ending renaming returned->aJ
open Go.IntKind renaming i64->U
open Go.Obj renaming cells->aF
open Go.Proofs.Tryz renaming prog->aK,results8->bK,ntmps79->bQ,func34->bR,func79->bS
open Go.Value renaming slice->J,int->O,pointer->aH,bool->aQ,agg->bV
open _root_.List renaming getElem?_eq_some_iff->Z,getElem?_eq_getElem->aj,getElem?_toArray->ak,getElem?_cons_zero->ay,getElem?_cons_succ->aA,take_of_length_le->aG,mem_of_getElem?->aN,map_cons->aR,mem_iff_getElem?->aV,take_take->aW,filter_eq_self->aY,mem_map->bf,getElem?_map->bg,length_take->bD,take->bY,map->bZ
open _root_.Nat renaming lt_of_lt_of_le->aB,le_trans->aC,le_refl->aM,le_of_lt->aU,mul_le_mul_right->aX,zero_le->bG,min_eq_left->bH,add_zero->bN
open _root_.Option renaming none->ah,some->aD
open Option.some renaming inj->aL
open _root_.Or renaming inr->aS,inl->bL
open Go.Proofs.YtghlpefopidlaaaGreat renaming hq->A
namespace Go.Proofs.YtghlpefopidlaaaGreat.Av
open Go.RowKit Go.Sort Rw YtghlpefopidlaaaGreat.Nm Pr Bk
structure rR (b:Br):Prop where
 dQ:∀ a∈b.dQ,a.p.length<=900
 ent:∀ a∈b.ent,a.p.length<=900
 own:∀ a∈b.own,a.p.length<=900
theorem gP {α:Type} {E:Ek α} {W:au} {B n cap:Nat} {o:OA} {l:List α} (h:Own E W B (J o n cap) l):l.length=n:=by
 obtain⟨_,_,j⟩:=(Row.dL h).len;have:n=l.length:=by simpa using congrArg (fun v=>match v with | Value.slice _ n _=>n | _=>0) j
 exact this.symm
theorem vS {α:Type} {E:Ek α} {W:au} {B n cap:Nat} {o:OA} {l:List α} (h:Own E W B (J o n cap) l) (F:0<n):∃ g,o=aD ⟨g,0,ah⟩/\B<=g:=by
 have r:=gP h;rcases gD h with⟨_,j⟩|⟨g,u,cur,q,j,_⟩
 ·rw [j] at r; simp at r; omega
 ·exact⟨g,by simp at q; exact q.1,j⟩
theorem eP (w:au) (b:Nat) (a0 j q a3 a4 a5:aO):But b w (gH w b a0 j q a3 a4 a5) :=
 (((eH _ b _ _).trans (eH _ b _ _)).trans ((eH _ b _ _).trans (eH _ b _ _))).trans ((eH _ b _ _).trans (eH _ b _ _))
theorem Cs.done {w0 w wr:au} {b:Br} {a6 b1:Sl} {a7 a8 aE:OA} {r s2 u s4 F s5:Nat} (h:Cs w0 w wr b r u F a6 (a7,r,s2) b1 (a8,u,s4) (aE,F,s5)) (a0 j q a3 a4 a5:aO):Cp (vw w0) w.heap.size (gH wr (w.heap.size+1) a0 j q a3 a4 a5) b a6 (a7,r,s2) b1 (a8,u,s4) (aE,F,s5)/\Below w.heap.size w (gH wr (w.heap.size+1) a0 j q a3 a4 a5):=by
 obtain⟨T,G,b2,H⟩:=h.dQ;obtain⟨a1,I,b4,M⟩:=h.ent;obtain⟨a2,N,b5,S⟩:=h.own;have b6:T.length=r:=gP G;have b7:a1.length=u:=gP I;have b8:a2.length=F:=gP N;rw [aG (by omega),aG (by have:=b2.len; omega)] at H;rw [aG (by omega),aG (by have:=b4.len; omega)] at M;rw [aG (by omega),aG (by have:=b5.len; omega)] at S;exact⟨Cp.but ⟨h.near,h.seen,⟨T,G,H⟩,⟨a1,I,M⟩,⟨a2,N,S⟩⟩ (eP wr (w.heap.size+1) a0 j q a3 a4 a5) h.bz,dJ h.xY (by omega) a0 j q a3 a4 a5⟩
theorem qL (b:Br) (dS av e1 dA dT:Sl) (w0 w:au) (c7:Below w0.heap.size w0 w) (h:iT w0 b dS av e1 dA dT) (cA:Am b) (f6:rR b) :
  bF aK 33 #[mg b.me dS av e1 dA dT] w fun e w'=>(∃ fL Eb Mw ev' Ql:Sl,e=aJ (mg b.me fL Eb Mw ev' Ql)/\Cp (vw w0) w.heap.size w' b fL Eb Mw ev' Ql)/\Below w.heap.size w w':=by
 obtain⟨no,dE,dC⟩:=dS;obtain⟨cS,cR,cQ⟩:=av;obtain⟨e0,dZ,sc⟩:=e1;obtain⟨cW,cV,cU⟩:=dA;obtain⟨d0,cT,cY⟩:=dT;obtain⟨la,eW,bW⟩:=h.dQ;obtain⟨le,f2,bX⟩:=h.ent;obtain⟨d3,f5,c6⟩:=h.own;have e4:=A bW;have e5:=A bX;have e6:=A c6;have eB:=A (h.near.on c7);have eC:=A (eW.on c7);have eE:=A (h.seen.on c7);have eI:=A (f2.on c7);have eJ:=A (f5.on c7);have c9:=A c7;have d2:=A f6;have e8:=A cA.near;have d4:=A (show la.length<=900 by rw [bW.len]; exact cA.dQ);have e9:=A cA.seen;have d5:=A (show le.length<=900 by rw [bX.len]; exact cA.ent);have d6:=A (show d3.length<=900 by rw [c6.len]; exact cA.own);obtain⟨eS,eV,cF⟩:=gX w #[O U b.me,J no dE dC,J cS cR cQ,J e0 dZ sc,J cW cV cU,J d0 cT cY] #[O U 0,J ah 0 0,J ah 0 0,J ah 0 0,J ah 0 0,J ah 0 0] 30 30;have c8:=A eS;have eL:=A eV;have d7:=A cF;clear eS eV cF h cA f6 c7 eW bW f2 bX f5 c6;go_enter Tryz.func33,Tryz.ntmps33;go_upto_region 1 with fail;generalize (w.alloc (aF #[O U b.me,J no dE dC,J cS cR cQ,J e0 dZ sc,J cW cV cU,J d0 cT cY] 30)).alloc (aF #[O U 0,J ah 0 0,J ah 0 0,J ah 0 0,J ah 0 0,J ah 0 0] 30)=W at *;refine cp1 _ W w.heap.size b.me (J cS cR cQ) (J cW cV cU) (J d0 cT cY) no dE dC b.near e0 dZ sc b.seen eL.o (eB.o.on c8.o) (eE.o.on c8.o) e8.o e9.o ?_;intro d1 hR hV i7 v9 gA gC gE gI H M s1 I N s3 f0 f4 f8 d9 eM;have b7:=A (c8.o.trans (d9 _ (aM _)));have fY:=A (show W.heap.size<=d1.heap.size from (d9 _ (aM _)).size);have d8:=A (show dN d1 (w.heap.size+1) _ _ from (eM _ d7.o.lt (by omega)).trans d7.o);have cP:=A f0;have eA:=A (dO f4 c8.o.size);have e7:=A (dO f8 c8.o.size);clear f0 f4 f8 d9 eM eL d7;go_upto_region 2 with fail;refine cp2 _ d1 w.heap.size b.me (J H M s1) (J I N s3) cS cR cQ la cW cV cU le d0 cT cY d3 cP.o (eC.o.on b7.o) (eI.o.on b7.o) (eJ.o.on b7.o) d4.o d5.o d6.o ?_;intro fN gO gR gS h0 h1 h2 h3 h4 v22 h5 h6 h7 a7 q s2 a8 u s4 aE G s5 f1 bW bX c6 cN cM;have j:=A (show Cs w0 w fN b 0 0 0 (H,M,s1) (a7,q,s2) (I,N,s3) (a8,u,s4) (aE,G,s5) from {
  xY:=b7.o.trans (cN _ (aM _))
  bx:=f1
  bz:=(cM _ d8.o.lt (by omega)).trans d8.o
  near:=But.own ⟨cM,(cN _ (aM _)).size⟩ eA.o cP.o (by decide)
  seen:=But.own ⟨cM,(cN _ (aM _)).size⟩ e7.o cP.o (by decide)
  dQ:=⟨la,dO bW b7.o.size,e4.o.mono fun _ _ r=>⟨r.1,r.2.1,bL r.2.2⟩,.nil⟩
  ent:=⟨le,dO bX b7.o.size,e5.o.mono fun _ _ r=>⟨r.1,r.2.1,r.2.2.1,r.2.2.2.1,bL r.2.2.2.2⟩,.nil⟩
  own:=⟨d3,dO c6 b7.o.size,e6.o.mono fun _ _ r=>⟨r.1,bL r.2⟩,.nil⟩ })
 have fV:=A (show q<=900 from by rw [<- gP bW]; exact d4.o);have fW:=A (show u<=900 from by rw [<- gP bX]; exact d5.o);have fX:=A (show G<=900 from by rw [<- gP c6]; exact d6.o);clear f1 bW bX c6 cN cM cP d8 eA e7 b7 fY eB eC eE eI eJ e4 e5 e6 e8 d4 e9 d5 d6 c8;have eN:=j.o.bx.cell 2;simp only [ak,ay,aA] at eN;go_wp2
 go_loopw [29] (fun i wr=>∃ k:Nat,k<=q/\i=O U k/\Cs w0 w wr b k 0 0 (H,M,s1) (a7,q,s2) (I,N,s3) (a8,u,s4) (aE,G,s5)) (fun i _=>q-(intOf i).toNat)
 case atStart=>exact⟨0,bG _,rfl,j.o⟩
 case round =>
  obtain⟨k,f3,rfl,bM⟩:=hrel;have j:=A bM;have f7:=fV.o;clear bM;by_cases cX:k<q
  ·obtain⟨l,a2,a1,bI⟩:=j.o.dQ;have bP:l.length=q:=gP a2;obtain⟨g,rfl,bC⟩:∃ g,a7=aD ⟨g,0,ah⟩/\w.heap.size<=g:=vS a2 (show 0<q by omega);obtain⟨y,b5⟩:∃ y,l[k]?=aD y:=⟨_,aj (by omega)⟩;obtain⟨a,b4⟩:∃ a,b.dQ[k]?=aD a:=⟨_,aj (by have h:=a1.len; have cF:l.length=q:=bP; omega)⟩;obtain⟨fR,b6,bT⟩:=a1.at k a b4;rw [b5] at b6;obtain rfl:=aL b6;obtain⟨cG,cH,⟨cL,cJ,cI⟩,e2⟩:=y;have T:=A a2;have b8:=A a1;have bA:=A bI;have F:=A bT;have b1:=A b5;have S:=A b4;have b9:=A bC;have f9:IntKind.i64.wrap ((k:Int)+1)=(k:Int)+1:=IntWalk.i64_in _ (by omega);clear a2 a1 bI bP b5 b4 b6 bT bC eN;go_upto_region 6 with fail;refine cp6 _ wr w.heap.size l w.heap.size b.me (J H M s1) (J I N s3) (J a8 u s4) (J aE G s5) g q s2 k cG cH cL cJ cI e2 a.p j.o.bx T.o b1.o (F.o.2.2.row (c9.o.trans (j.o.xY.mono c9.o.size))) (d2.o.dQ a (aN S.o)) ?_;intro x h8 h9 hA hC hD hE hF hG v40 hH t1 t2 t3 b2 bE a6 bB;have cC:=A (show Cs w0 w x b (k+1) 0 0 (H,M,s1) (aD ⟨g,0,ah⟩,q,s2) (I,N,s3) (a8,u,s4) (aE,G,s5) from by
    obtain⟨cur,bO⟩:=jX T.o;exact j.o.YO T.o bE a6 (j.o.xY.trans (bB _ b9.o j.o.xY.size)) (eY.set k _ a (b8.o.mono fun _ _ r=>r.but a6 bO (by decide)) S.o ⟨F.o.1,F.o.2.1,aS (dO b2 j.o.xY.size)⟩) (AJ (bA.o.mono fun _ _ r=>r.but a6 bO (by decide)) (Z.1 b1.o).1 S.o ⟨F.o.1,F.o.2.1,aS (dO b2 j.o.xY.size)⟩))
   clear b2 bE a6 bB j T b8 bA F b1 S b9;go_wp2
   go_roundw
   case rel=>exact⟨k+1,by omega,by go_num,cC.o⟩
   case measure=>simp [intOf]; omega
  ·obtain rfl:q=k:=by omega
   have eQ:=j.o.bx.cell 4;simp only [ak,ay,aA] at eQ;clear cX;go_wp2
   go_loopw [46] (fun i wr=>∃ k:Nat,k<=u/\i=O U k/\Cs w0 w wr b q k 0 (H,M,s1) (a7,q,s2) (I,N,s3) (a8,u,s4) (aE,G,s5)) (fun i _=>u-(intOf i).toNat)
   case atStart=>exact⟨0,bG _,rfl,j.o⟩
   case round =>
    obtain⟨k,f3,rfl,bM⟩:=hrel;have j:=A bM;have f7:=fW.o;clear bM;by_cases cX:k<u
    ·obtain⟨l,a2,a1,bI⟩:=j.o.ent;have bP:l.length=u:=gP a2;obtain⟨g,rfl,bC⟩:∃ g,a8=aD ⟨g,0,ah⟩/\w.heap.size<=g:=vS a2 (show 0<u by omega);obtain⟨y,b5⟩:∃ y,l[k]?=aD y:=⟨_,aj (by omega)⟩;obtain⟨a,b4⟩:∃ a,b.ent[k]?=aD a:=⟨_,aj (by have h:=a1.len; have cF:l.length=u:=bP; omega)⟩;obtain⟨fR,b6,bT⟩:=a1.at k a b4;rw [b5] at b6;obtain rfl:=aL b6;obtain⟨cG,cH,g2,e2,⟨cL,cJ,cI⟩,g3,g4⟩:=y;have T:=A a2;have b8:=A a1;have bA:=A bI;have F:=A bT;have b1:=A b5;have S:=A b4;have b9:=A bC;have f9:IntKind.i64.wrap ((k:Int)+1)=(k:Int)+1:=IntWalk.i64_in _ (by omega);clear a2 a1 bI bP b5 b4 b6 bT bC eQ;go_upto_region 11 with fail;refine an7 _ wr w.heap.size l w.heap.size b.me (J H M s1) (J a7 q s2) (J I N s3) (J aE G s5) g u s4 k cG cH g2 e2 cL cJ cI g3 g4 a.p j.o.bx T.o b1.o (F.o.2.2.2.2.row (c9.o.trans (j.o.xY.mono c9.o.size))) (d2.o.ent a (aN S.o)) ?_;intro x hI hJ v51 hK v53 hL hM hN hO hP hQ hS t1 t2 t3 b2 bE a6 bB;have cC:=A (show Cs w0 w x b q (k+1) 0 (H,M,s1) (a7,q,s2) (I,N,s3) (aD ⟨g,0,ah⟩,u,s4) (aE,G,s5) from by
      obtain⟨cur,bO⟩:=jX T.o;exact j.o.anZ T.o bE a6 (j.o.xY.trans (bB _ b9.o j.o.xY.size)) (eY.set k _ a (b8.o.mono fun _ _ r=>r.but a6 bO (by decide)) S.o ⟨F.o.1,F.o.2.1,F.o.2.2.1,F.o.2.2.2.1,aS (dO b2 j.o.xY.size)⟩) (AJ (bA.o.mono fun _ _ r=>r.but a6 bO (by decide)) (Z.1 b1.o).1 S.o ⟨F.o.1,F.o.2.1,F.o.2.2.1,F.o.2.2.2.1,aS (dO b2 j.o.xY.size)⟩))
     clear b2 bE a6 bB j T b8 bA F b1 S b9;go_wp2
     go_roundw
     case rel=>exact⟨k+1,by omega,by go_num,cC.o⟩
     case measure=>simp [intOf]; omega
    ·obtain rfl:u=k:=by omega
     have eR:=j.o.bx.cell 5;simp only [ak,ay,aA] at eR;clear cX;go_wp2
     go_loopw [65] (fun i wr=>∃ k:Nat,k<=G/\i=O U k/\Cs w0 w wr b q u k (H,M,s1) (a7,q,s2) (I,N,s3) (a8,u,s4) (aE,G,s5)) (fun i _=>G-(intOf i).toNat)
     case atStart=>exact⟨0,bG _,rfl,j.o⟩
     case round =>
      obtain⟨k,f3,rfl,bM⟩:=hrel;have j:=A bM;have f7:=fX.o;clear bM;by_cases cX:k<G
      ·obtain⟨l,a2,a1,bI⟩:=j.o.own;have bP:l.length=G:=gP a2;obtain⟨g,rfl,bC⟩:∃ g,aE=aD ⟨g,0,ah⟩/\w.heap.size<=g:=vS a2 (show 0<G by omega);obtain⟨y,b5⟩:∃ y,l[k]?=aD y:=⟨_,aj (by omega)⟩;obtain⟨a,b4⟩:∃ a,b.own[k]?=aD a:=⟨_,aj (by have h:=a1.len; have cF:l.length=G:=bP; omega)⟩;obtain⟨fR,b6,bT⟩:=a1.at k a b4;rw [b5] at b6;obtain rfl:=aL b6;obtain⟨cG,cH,⟨cL,cJ,cI⟩⟩:=y;have T:=A a2;have b8:=A a1;have bA:=A bI;have F:=A bT;have b1:=A b5;have S:=A b4;have b9:=A bC;have f9:IntKind.i64.wrap ((k:Int)+1)=(k:Int)+1:=IntWalk.i64_in _ (by omega);clear a2 a1 bI bP b5 b4 b6 bT bC eR;go_upto_region 16 with fail;refine an9 _ wr w.heap.size l w.heap.size b.me (J H M s1) (J a7 q s2) (J I N s3) (J a8 u s4) g G s5 k cG cH cL cJ cI a.p j.o.bx T.o b1.o (F.o.2.row (c9.o.trans (j.o.xY.mono c9.o.size))) (d2.o.own a (aN S.o)) ?_;intro x hT hU hW hX hY hZ i0 i1 i2 i4 i5 i6 t1 t2 t3 b2 bE a6 bB;have cC:=A (show Cs w0 w x b q u (k+1) (H,M,s1) (a7,q,s2) (I,N,s3) (a8,u,s4) (aD ⟨g,0,ah⟩,G,s5) from by
        obtain⟨cur,bO⟩:=jX T.o;exact j.o.setW T.o bE a6 (j.o.xY.trans (bB _ b9.o j.o.xY.size)) (eY.set k _ a (b8.o.mono fun _ _ r=>r.but a6 bO (by decide)) S.o ⟨F.o.1,aS (dO b2 j.o.xY.size)⟩) (AJ (bA.o.mono fun _ _ r=>r.but a6 bO (by decide)) (Z.1 b1.o).1 S.o ⟨F.o.1,aS (dO b2 j.o.xY.size)⟩))
       clear b2 bE a6 bB j T b8 bA F b1 S b9;go_wp2
       go_roundw
       case rel=>exact⟨k+1,by omega,by go_num,cC.o⟩
       case measure=>simp [intOf]; omega
      ·obtain rfl:G=k:=by omega
       have eK:=j.o.bx;have cD:=j.o.bz;obtain⟨i8,d1,fN,i9,iG,iS⟩:=eK.fA;obtain⟨g5,g6,g7,g8,g9,r5⟩:=cD.fA;obtain⟨t0,t1,t2,t3,t4,t5⟩:=cD.kg;have j0:=cD.lt;have fS:=A (dM cD (O U b.me) (J H M s1) (J a7 q s2) (J I N s3) (J a8 u s4) (J aE G s5));have e3:=A (j.o.done (O U b.me) (J H M s1) (J a7 q s2) (J I N s3) (J a8 u s4) (J aE G s5));clear eK cD j;go_wp2_with fail;obtain⟨v0,g0,g1,v3,v4,v5⟩:=fS.o.fA;refine aZ (v:=bV #[O U b.me,J H M s1,J a7 q s2,J I N s3,J a8 u s4,J aE G s5]) (by simp [results,Tryz.results33,go_sem,v0,g0,g1,v3,v4,v5]) rfl ?_;exact⟨⟨(H,M,s1),(a7,q,s2),(I,N,s3),(a8,u,s4),(aE,G,s5),rfl,e3.o.1⟩,e3.o.2⟩
theorem VH (l:List fB) (y:fB):fG uQ l y<=l.length:=by
 rw [iN];exact aC (nR _ _) (by simp)
theorem Zp (B:Nat) (v:Sl) (l:List fB) (x:fB) (w:au) (r:Own EJ w B (eu v) l) (b2:kL uQ l) (H:l.length<=900) (hB:B<=w.heap.size) :
  bF aK 37 #[eu v,nP x,.func (.func 38) #[] #[]] w fun e w'=>(∃ N:Sl,e=aJ (eu N)/\Own EJ w' B (eu N) (gL l (fG uQ l (uQ x)) x))/\Below B w w'/\(∀ j,j<w.heap.size->aD j≠(eu v).ownBlock->w'.heap[j]?=w.heap[j]?):=by
 have I:=fP w (aF #[O U x.1,O U x.2] 23);have X:=dR w #[O U x.1,O U x.2] 23;have C:=A (Tm (eu v) l x _ ((Row.dL r).on I) b2 H);obtain⟨a6,M⟩:∃ k,k=fG uQ l (uQ x):=⟨_,rfl⟩;have a8:a6<=l.length:=by rw [M]; exact VH _ _
 rw [<- M] at C;rw [<- M];generalize gZ uQ l (uQ x)=c9 at *;have bE:=A (Bk.dK r I);have b9:=A (show (eu v).ownBlock≠ah->∃ g,(eu v).ownBlock=aD g/\g<w.heap.size from fun a1=>by
  cases q:(eu v).ownBlock with
  | none=>exact absurd q a1
  | some g=>exact⟨g,rfl,(r.lt g q).2⟩)
 have b5:=A ((Below.refl B w).alloc hB (aF #[O U x.1,O U x.2] 23));have b7:=A I;have bA:=A a8;have bB:=A H;have S:=A hB;clear I r b2 H hB M a8;obtain⟨c1,c2⟩:=x;obtain⟨bX,bW,bT⟩:=v;simp only at C X;obtain⟨c6,c7⟩:=X.cs2;have bI:=A X;clear X;go_enter Tryz.func37,Tryz.ntmps37;go_wp2_with fail;have T:=A (show w.heap.size<=(w.alloc (aF #[O U c1,O U c2] 23)).heap.size by simp);generalize w.alloc (aF #[O U c1,O U c2] 23)=W at *;refine C.o.mono ?_;rintro e w1 ⟨rfl,q⟩;have Y:=bI.o.on q;obtain⟨cA,cC⟩:=Y.cs2;have bC:=A (Bk.dK bE.o q);have b6:=A (b5.o.trans (q.mono (aC S.o T.o)));have b8:=A (fun j (F:j<w.heap.size)=>(q.block j (aB F T.o)).trans (b7.o.block j F));have G:=A (aC T.o q.size);clear C Y q c6 c7;go_wp2_with fail;have H:=bB.o;have u:=fP w1 (aF #[O U c1,O U c2] 23);refine (Nt B _ l a6 (c1,c2) w1.heap.size _ (Bk.dK bC.o u) (dR w1 #[O U c1,O U c2] 23) ?_ bA.o (by omega) (aC (aC S.o G.o) u.size)).mono ?_
 ·intro aE;obtain⟨g,b1,c8⟩:=b9.o (by rw [aE]; simp);rw [aE] at b1;have:=aL b1;have:=G.o;omega
 rintro e a7 ⟨N,rfl,r,q,bP⟩;obtain⟨bM,bO,a2⟩:=(Row.dL r).len;have Q:=A (show (∃ b4:Sl,aJ N=aJ (eu b4)/\Own EJ a7 B (eu b4) (gL l a6 (c1,c2)))/\Below B w a7/\(∀ j,j<w.heap.size->aD j≠(eu (bX,bW,bT)).ownBlock->a7.heap[j]?=w.heap[j]?) from ⟨⟨(bM,_,bO),by rw [a2],by subst a2; simpa [gL] using r⟩,(b6.o.trans (u.mono (aC S.o G.o))).trans q,fun j F a1=>(bP j (aB (aB F G.o) u.size) a1).trans ((u.block j (aB F G.o)).trans (b8.o j F))⟩);clear r q a2 H u;go_wp2;go_ret;exact Q.o
theorem VI (l:List ku) (y:fB):fG mR l y<=l.length:=by
 rw [iN];exact aC (nR _ _) (by simp)
theorem Zq (B:Nat) (v:Sl) (l:List ku) (x:ku) (w:au) (r:Own ED w B (eu v) l) (b4:kL mR l) (I:l.length<=900) (hB:B<=w.heap.size) :
  bF aK 34 #[eu v,nC x,.func (.func 36) #[] #[]] w fun e w'=>(∃ S:Sl,e=aJ (eu S)/\Own ED w' B (eu S) (gL l (fG mR l (mR x)) x))/\Below B w w'/\(∀ j,j<w.heap.size->aD j≠(eu v).ownBlock->w'.heap[j]?=w.heap[j]?):=by
 have M:=fP w (aF #[O U x.1,O U x.2.1,eu x.2.2.1,O U x.2.2.2] 36);have X:=dR w #[O U x.1,O U x.2.1,eu x.2.2.1,O U x.2.2.2] 36;have C:=A (Tq (eu v) l x _ ((Row.dL r).on M) b4 I);obtain⟨a7,N⟩:∃ k,k=fG mR l (mR x):=⟨_,rfl⟩;have aE:a7<=l.length:=by rw [N]; exact VI _ _
 have bT:mR x=(x.1,x.2.1):=rfl;rw [<- bT] at C;rw [<- N] at C;rw [<- N];generalize gZ mR l (mR x)=cF at *;have bI:=A (Bk.dK r M);have bA:=A (show (eu v).ownBlock≠ah->∃ g,(eu v).ownBlock=aD g/\g<w.heap.size from fun a2=>by
  cases q:(eu v).ownBlock with
  | none=>exact absurd q a2
  | some g=>exact⟨g,rfl,(r.lt g q).2⟩)
 have b6:=A ((Below.refl B w).alloc hB (aF #[O U x.1,O U x.2.1,eu x.2.2.1,O U x.2.2.2] 36));have b8:=A M;have bB:=A aE;have bC:=A I;have T:=A hB;clear M r b4 I hB N aE;obtain⟨c1,c2,⟨c3,c4,c5⟩,F⟩:=x;obtain⟨c7,c6,bX⟩:=v;simp only at C X;obtain⟨c8,c9,cA,cC⟩:=X.Ib;have bM:=A X;clear X;go_enter bR,Tryz.ntmps34;go_wp2_with fail;have a1:=A (show w.heap.size<=(w.alloc (aF #[O U c1,O U c2,J c3 c4 c5,O U F] 36)).heap.size by simp);generalize w.alloc (aF #[O U c1,O U c2,J c3 c4 c5,O U F] 36)=W at *;refine C.o.mono ?_;rintro e w1 ⟨rfl,q⟩;have Y:=bM.o.on q;obtain⟨cG,cH,cI,cJ⟩:=Y.Ib;have bE:=A (Bk.dK bI.o q);have b7:=A (b6.o.trans (q.mono (aC T.o a1.o)));have b9:=A (fun j (G:j<w.heap.size)=>(q.block j (aB G a1.o)).trans (b8.o.block j G));have H:=A (aC a1.o q.size);clear C Y q c8 c9 cA cC;go_wp2_with fail;have I:=bC.o;have u:=fP w1 (aF #[O U c1,O U c2,J c3 c4 c5,O U F] 36);refine (Nh B _ l a7 (c1,c2,(c3,c4,c5),F) w1.heap.size _ (Bk.dK bE.o u) (dR w1 #[O U c1,O U c2,J c3 c4 c5,O U F] 36) ?_ bB.o (by omega) (aC (aC T.o H.o) u.size)).mono ?_
 ·intro b1;obtain⟨g,b2,cD⟩:=bA.o (by rw [b1]; simp);rw [b1] at b2;have:=aL b2;have:=H.o;omega
 rintro e a8 ⟨S,rfl,r,q,bW⟩;obtain⟨bO,bP,a6⟩:=(Row.dL r).len;have Q:=A (show (∃ b5:Sl,aJ S=aJ (eu b5)/\Own ED a8 B (eu b5) (gL l a7 (c1,c2,(c3,c4,c5),F)))/\Below B w a8/\(∀ j,j<w.heap.size->aD j≠(eu (c7,c6,bX)).ownBlock->a8.heap[j]?=w.heap[j]?) from ⟨⟨(bO,_,bP),by rw [a6],by subst a6; simpa [gL] using r⟩,(b7.o.trans (u.mono (aC T.o H.o))).trans q,fun j G a2=>(bW j (aB (aB G H.o) u.size) a2).trans ((u.block j (aB G H.o)).trans (b9.o j G))⟩);clear r q a6 I u;go_wp2;go_ret;exact Q.o
def Off (q:Option Nat) (W x:au):Prop:=(∀ j,j<W.heap.size->aD j≠q->x.heap[j]?=W.heap[j]?)/\W.heap.size<=x.heap.size
def Tag (j:Option Nat) (W:au) (t:aT):Prop:=∀ g,j=aD g->∃ d,dN W g d t
theorem jQ {α:Type} {E:Ek α} {W:au} {B:Nat} {v:aO} {l:List α} (h:Own E W B v l):Tag v.ownBlock W E.t:=by
 intro g j;rcases gD h with⟨rfl,_⟩|⟨q,u,cur,rfl,_,r,_⟩
 ·cases j
 ·obtain rfl:q=g:=by simpa [Value.ownBlock] using j
  exact⟨cur,r⟩
theorem Off.own {α:Type} {E:Ek α} {F:Option Nat} {W x:au} {B:Nat} {v:aO} {l:List α} {t:aT} (h:Off F W x) (u:Own E W B v l) (M:Tag F W t) (N:(E.t == t)=aP):Own E x B v l:=by
 refine⟨u.1,?_⟩;rcases u.2 with q|⟨j,cap,cur,G,q,r,H⟩
 ·exact bL q
 ·refine aS ⟨j,cap,cur,G,q,?_,H⟩;rw [h.1 j (lt_of_heap r) fun e=>by
   obtain⟨d,I⟩:=M j e.symm;exact lQ (show dN W j cur E.t from r) I N rfl]
  exact r
theorem Off.box {q:Option Nat} {W x:au} {b:Nat} {cs:Array aO} {s t:aT} (h:Off q W x) (j:dN W b cs s) (u:Tag q W t) (F:(s == t)=aP):dN x b cs s:=(h.1 b j.lt fun e=>by
 obtain⟨d,r⟩:=u b e.symm;exact lQ j r F rfl).trans j
theorem PM.off {w0 wr x:au} {B:Nat} {v:aO} {p:List C5} {j:Option Nat} {t:aT} (h:PM w0 B wr v p) (q:Off j wr x) (r:Tag j wr t) (u:(91 == t)=aP):PM w0 B x v p:=h.imp id fun h=>q.own h r u
theorem Qk.off {w0 wr x:au} {B:Nat} {y:ku} {a:Ad} {j:Option Nat} {t:aT} (h:Qk w0 B wr y a) (q:Off j wr x) (r:Tag j wr t) (u:(91 == t)=aP):Qk w0 B x y a:=⟨h.1,h.2.1,h.2.2.off q r u⟩
theorem uN.off {w0 wr x:au} {B:Nat} {y:iY} {a:En} {j:Option Nat} {t:aT} (h:uN w0 B wr y a) (q:Off j wr x) (r:Tag j wr t) (u:(91 == t)=aP):uN w0 B x y a:=⟨h.1,h.2.1,h.2.2.1,h.2.2.2.1,h.2.2.2.2.off q r u⟩
theorem QF.off {w0 wr x:au} {B:Nat} {y:mP} {a:Ow} {j:Option Nat} {t:aT} (h:QF w0 B wr y a) (q:Off j wr x) (r:Tag j wr t) (u:(91 == t)=aP):QF w0 B x y a:=⟨h.1,h.2.off q r u⟩
theorem Cp.aod {w0 wr x:au} {B:Nat} {b:Br} {G av I F H Eb:Sl} {al:List Ad} (h:Cp w0 B wr b G av I F H) (j:Off (eu av).ownBlock wr x) (N:∃ l,nD x B (eu Eb) l/\eY (Qk w0 B x) l al):Cp w0 B x { b with dQ:=al } G Eb I F H:=by
 obtain⟨S,M,_⟩:=h.dQ;have q:=jQ M;exact {
  near:=j.own h.near q (by decide)
  seen:=j.own h.seen q (by decide)
  dQ:=N
  ent:=by obtain⟨l,r,u⟩:=h.ent; exact⟨l,j.own r q (by decide),u.mono fun _ _ h=>h.off j q (by decide)⟩
  own:=by obtain⟨l,r,u⟩:=h.own; exact⟨l,j.own r q (by decide),u.mono fun _ _ h=>h.off j q (by decide)⟩ }
theorem Cp.adL {w0 wr x:au} {B:Nat} {b:Br} {G av I F H ev':Sl} {el:List En} (h:Cp w0 B wr b G av I F H) (j:Off (eu F).ownBlock wr x) (N:∃ l,jJ x B (eu ev') l/\eY (uN w0 B x) l el):Cp w0 B x { b with ent:=el } G av I ev' H:=by
 obtain⟨S,M,_⟩:=h.ent;have q:=jQ M;exact {
  near:=j.own h.near q (by decide)
  seen:=j.own h.seen q (by decide)
  dQ:=by obtain⟨l,r,u⟩:=h.dQ; exact⟨l,j.own r q (by decide),u.mono fun _ _ h=>h.off j q (by decide)⟩
  ent:=N
  own:=by obtain⟨l,r,u⟩:=h.own; exact⟨l,j.own r q (by decide),u.mono fun _ _ h=>h.off j q (by decide)⟩ }
theorem Cp.aoe {w0 wr x:au} {B:Nat} {b:Br} {G av I F H Mw:Sl} {sl:List fB} (h:Cp w0 B wr b G av I F H) (j:Off (eu I).ownBlock wr x) (M:tq x B (eu Mw) sl):Cp w0 B x { b with seen:=sl } G av Mw F H:=by
 have q:=jQ h.seen;exact {
  near:=j.own h.near q (by decide)
  seen:=M
  dQ:=by obtain⟨l,r,u⟩:=h.dQ; exact⟨l,j.own r q (by decide),u.mono fun _ _ h=>h.off j q (by decide)⟩
  ent:=by obtain⟨l,r,u⟩:=h.ent; exact⟨l,j.own r q (by decide),u.mono fun _ _ h=>h.off j q (by decide)⟩
  own:=by obtain⟨l,r,u⟩:=h.own; exact⟨l,j.own r q (by decide),u.mono fun _ _ h=>h.off j q (by decide)⟩ }
theorem zH {α j:Type} {R:α->j->Prop} {l:List α} {m:List j} (h:eY R l m) (k:Nat) {a:α} {b:j} (q:R a b):eY R (gL l k a) (gL m k b) :=
 ((h.take k).append (.cons q .nil)).append (h.drop k)
theorem keys_eq {w0 wr:au} {B:Nat}:∀ {l:List ku} {al:List Ad},eY (Qk w0 B wr) l al->l.map mR=al.map Ad.id
 | _,_,.nil=>rfl
 | _,_,.cons h t=>by rw [aR,aR,keys_eq t]; exact congrArg (·::_) h.1
theorem xD {α:Type} (key:α->fB) (l:List α):kL key l↔kL (fun x:fB=>x) (l.map key):=by
 unfold kL;rw [List.pairwise_map]
theorem zI {g:Nat} {t:aT}:∀ (H:List aO) (o:Nat) (w:au) (cur:Array aO),dN w g cur t->∃ j,dN (w.setCells g o H) g j t/\j.size=cur.size/\j.toList.take o=cur.toList.take o
 | [],o,w,cur,h=>⟨cur,h,rfl,rfl⟩
 | v::G,o,w,cur,h=>by
  obtain⟨j,r,u,F⟩:=zI G (o+1) (w.setCell ⟨g,o,ah⟩ v) _ (eD (k:=o) h v);refine⟨j,r,by rw [u]; simp,?_⟩;have q:=congrArg (bY o) F;rw [aW,aW,bH (by omega)] at q;rw [q,Array.toList_setIfInBounds,List.take_set_of_le (aM _)]
theorem zJ (g:Nat):∀ (q:List aO) (o:Nat) (w:au),But g w (w.setCells g o q)
 | [],_,_=>⟨fun _ _ _=>rfl,aM _⟩
 | v::j,o,w=>(eH w g o v).trans (zJ g j (o+1) _)
theorem below_setCells {B g:Nat} (hB:B<=g):∀ (q:List aO) (o:Nat) (W w:au),Below B W w->Below B W (w.setCells g o q)
 | [],_,_,_,h=>h
 | v::j,o,W,_,h=>below_setCells hB j (o+1) W _ (h.setCell (p:=⟨g,o,ah⟩) hB v)
theorem Jw {α:Type} {E:Ek α} (K:E.Ok) (b6:∀ v∈E.z.cells.toList,v.oneCell'=bU) {W:au} {B g n cap i:Nat} {L:List α} (h:Own E W B (J (aD ⟨g,0,ah⟩) n cap) L) (H:i<n) (bA:aT) :
  ∃ q,(bJ #[E.ts] bA #[J (aD ⟨g,i * E.n,ah⟩) (n-i) (cap-i)]).run aK W=.ok (.tuple #[]) q/\Own E q B (J (aD ⟨g,0,ah⟩) i cap) (L.take i)/\But g W q/\(∀ B' u,B'<=g->Below B' u W->Below B' u q):=by
 have b1:=gP h;rcases gD h with⟨F,_⟩|⟨a1,T,cur,F,a2,G,bI,a6,M,a7⟩
 ·cases F
 ·obtain⟨rfl,_,rfl⟩:g=a1/\n=L.length/\cap=T:=by simpa using F
  have b7:(aI E.z.cells (n-i)).toList.length=(n-i) * E.n:=by simp [aI,K.zs]
  have bC:i * E.n+(n-i) * E.n=n * E.n:=by rw [<- Nat.add_mul,Nat.add_sub_cancel' (aU H)]
  have bE:n * E.n<=cap * E.n:=aX _ (by omega);have b4:∀ v∈(aI E.z.cells (n-i)).toList,v.oneCell'=bU:=by
   intro v r;simp only [aI,Array.toList_map,bf] at r;obtain⟨j,_,rfl⟩:=r;have b5:=K.pos;have S:j % E.z.cells.size<E.z.cells.size:=Nat.mod_lt _ (by rw [K.zs]; exact b5);refine b6 _ ?_;rw [getElem!_pos E.z.cells (j % E.z.cells.size) S,Array.mem_toList_iff];exact Array.getElem_mem S
  have I:=run_storeCells_cells (P:=aK) g (i * E.n) (aI E.z.cells (n-i)).toList 0 W (by
   intro j aE;rw [b7] at aE;rw [bN,G.cell];have:i * E.n+j<cur.size:=by rw [M]; omega
   simp [this]) (fun j _=>G.fr _) b4
  rw [bN] at I;obtain⟨bO,b8,b9,i3,bM⟩:=K.info;obtain⟨bB,c1,c2,c3⟩:=zI (aI E.z.cells (n-i)).toList (i * E.n) W cur G;refine⟨W.setCells g (i * E.n) (aI E.z.cells (n-i)).toList,?_,?_,zJ _ _ _ _,fun B' u hB a8=>below_setCells hB _ _ _ _ a8⟩
  ·obtain⟨m,b2⟩:∃ m,n-i=m+1:=⟨n-i-1,by omega⟩;rw [b2] at I ⊢;have r:∀ w,(zeroValue E.t).run aK w=.ok E.z w:=fun w=>by simp [go_sem,zeroValue,typeInfo,b8,b9]
   simp [bJ,run_underlying K.hu,r,I]
  ·refine pF K (by rw [bD]; omega) a2 c1 (by omega) a6 (by rw [c2]; exact M) ?_;rw [c3];have N:=congrArg (bY (i * E.n)) a7;rw [aW,qK K,bH (by rw [<- b1] at H; exact aX _ (aU H))] at N;exact N
theorem Jy {α:Type} {key:α->fB} {l:List α} {x:fB} (h:fQ (l.map key) x=-1):∀ (q:Nat) (y:α),l[q]?=aD y->key y≠x:=by
 intro q y r u;have j:=Nb (l.map key) x;rw [h] at j;have:x∈l.map key:=bf.2 ⟨y,aN r,u⟩;simp [this] at j
theorem AY:∀ {l:List fB} {x:fB} {k:Nat},fQ l x=k->l[k]?=aD x/\∀ (j:Nat) (y:fB),j<k->l[j]?=aD y->y≠x
 | [],x,k,h=>by simp [fQ] at h <;> omega
 | a::l,x,k,h=>by
  unfold fQ at h;by_cases q:a=x
  ·rw [if_pos q] at h;obtain rfl:k=0:=by omega
   exact⟨by simpa using q,fun j y H=>by omega⟩
  ·rw [if_neg q] at h;by_cases r:fQ l x=-1
   ·rw [if_pos r] at h; omega
   ·rw [if_neg r] at h;cases k with
    | zero=>have:=tC l x; omega
    | succ k =>
     obtain⟨F,G⟩:=AY (l:=l) (x:=x) (k:=k) (by omega);refine⟨by simpa using F,fun j y H u=>?_⟩;cases j with
     | zero =>
      obtain rfl:a=y:=by simpa using u
      exact q
     | succ j=>exact G j y (by omega) (by simpa using u)
abbrev aof (x:iY):fB:=(x.1,x.2.1)
abbrev Cb (c d:Int) (x:iY):Bool:=decide (aof x≠(c,d))
def Tv (B:Nat) (u _:Nat) (_:Int) (_:aO) (G:OA) (F c2:Nat) (_ _ _:aO) (j q:Int) (M:OA) (I H:Nat) (r:Int) (p:List C5) (i:Nat) (v:aO) (x:au):Prop :=
 match i with
 | 0=>v=aH (aD ⟨u,2,ah⟩)
 | 1=>v=J G F c2
 | 2=>v=bV #[O U j,O U q,J M I H,O U r]
 | 3=>∃ s:Sl,v=nC (j,q,s,r)/\iH x B (eu s) p
 | _=>True
noncomputable def ae1:Code:=((Tryz.f8.body.bind (eX 4)).getD .skip)
theorem Zr (B:Nat) (j q:Nat) (me:Int) (T:aO) (u:OA) (r c2:Nat) (z3 z4 z5:aO) (G H:Int) (S:OA) (N M:Nat) (I:Int) (p:List C5) (i:Nat) (v:aO) (x F:au) (h:Tv B j q me T u r c2 z3 z4 z5 G H S N M I p i v x) (a6:Below x.heap.size x F):Tv B j q me T u r c2 z3 z4 z5 G H S N M I p i v F:=by
 by_cases a7:i<4
 ·rcases (by omega:i=0\/i=1\/i=2\/i=3) with rfl|rfl|rfl|rfl
  ·exact h
  ·exact h
  ·exact h
  ·obtain⟨s,a1,a2⟩:=h; exact⟨s,a1,Bk.dK a2 a6⟩
 ·unfold Tv
  split <;> first | omega | trivial
theorem aog (Q:Exit->Act->au->Prop) (W:au) (T:Nat) (l:List ku) (q S:Nat) (me:Int) (b5:aO) (H:OA) (G c2:Nat) (z3 z4 z5:aO) (I F:Int) (a6:OA) (a2 a1:Nat) (N:Int) (p:List C5) {b8 b9 bW bX u6 u7 c6 u9 bA u11 bB u13 cS cT cU cV cW bC bE bI bM bO bP bT:aO}
  (a7:dN W q #[O U me,b5,J H G c2,z3,z4,z5] 30) (aE:dN W S #[O U I,O U F,J a6 a2 a1,O U N] 36) (M:nD W T (J H G c2) l) (cP:kL mR l) (cJ:l.length<=900) (hB:T<=W.heap.size) (cG:q<T) (cN:fO W (J a6 a2 a1) p) (cR:p.length<=900)
  (cF:∀ (w1:au) {cX cY d0 d1 d2 d3:aO} (s1:OA) (s2 s3:Nat) (t1:OA) (t2 t3:Nat),dN w1 q #[O U me,b5,J H G c2,z3,z4,z5] 30->nD w1 T (J t1 t2 t3) (gL l (fG mR l (I,F)) (I,F,(s1,s2,s3),N))->iH w1 W.heap.size (J s1 s2 s3) p->Off (eu (H,G,c2)).ownBlock W w1->Below T W w1->Q .normal ⟨(b8::b9::aH (aD ⟨q,0,ah⟩)::aH (aD ⟨S,0,ah⟩)::bW::bX::u6::u7::c6::u9::bA::u11::bB::cX::cY::d0::d1::d2::d3::bC::bE::bI::bM::bO::bP::bT::[]).toArray,[]⟩ (w1.setCell ⟨q,2,ah⟩ (J t1 t2 t3))) :
  Code.wp aK ae1 Q ⟨(b8::b9::aH (aD ⟨q,0,ah⟩)::aH (aD ⟨S,0,ah⟩)::bW::bX::u6::u7::c6::u9::bA::u11::bB::u13::cS::cT::cU::cV::cW::bC::bE::bI::bM::bO::bP::bT::[]).toArray,[]⟩ W:=by
 have cA:=A cF;have c7:=A a7;have d6:=A aE;have c9:=A M;have d9:=A cP;have d7:=A cJ;have c8:=A hB;have d5:=A cG;have d8:=A cN;have dA:=A cR;clear cF a7 aE M cP cJ hB cG cN cR;have e9:=Zr W.heap.size q S me b5 H G c2 z3 z4 z5 I F a6 a2 a1 N p;unfold ae1
 conv=>arg 2; whnf
 have nd:∀ j,(j<13\/17<=j)->∀ i,i<4->(fun i=>13+i) i≠j:=by
  intro j a8 i cI h;simp only at h;omega
 refine Rg.gN 7 4 (fun i=>13+i) (fun _=>4) (Tv W.heap.size q S me b5 H G c2 z3 z4 z5 I F a6 a2 a1 N p) (by kernel_rfl) (by kernel_rfl) rfl (by decide) (fun i j _ _ h=>by have aE:13+i=13+j:=h; omega) (fun i cI=>by show 13+i<26; omega) ?_ (fun _=>Rg.kJ 14 (by kernel_rfl)) ?_ ?_
 ·intro i o cI M a x D eM cH eL r seen K b1;clear cA;rcases (by omega:i=0\/i=1\/i=2\/i=3) with rfl|rfl|rfl|rfl
  ·cases M;have dZ:a.eval (.tmp 2)=aH (aD ⟨q,0,ah⟩):=seen.kp 2 _ (nd 2 (by omega)) rfl;exact Rg.dI rfl rfl (Rg.dY a.eval _ 30 (.tmp 2) 2 rfl (by rw [dZ]; simp [go_sem])) (b1 _ _ rfl (Below.refl _ _) fun _ _ _ _ _ _ _ h=>h)
  ·cases M;have dS:a.eval (.tmp 13)=aH (aD ⟨q,2,ah⟩):=seen.at_ ⟨0,.data⟩ (by simp) rfl (aS (by decide));have F:=(c7.o.on r).cell 2;simp only [ak,ay,aA] at F;exact Rg.dI rfl rfl (Rg.dW a.eval _ 25 (.tmp 13) rfl (by rw [dS]; simp [go_sem,F])) (b1 _ _ rfl (Below.refl _ _) fun _ _ _ _ _ _ _ h=>h)
  ·cases M;have e0:a.eval (.tmp 3)=aH (aD ⟨S,0,ah⟩):=seen.kp 3 _ (nd 3 (by omega)) rfl;obtain⟨eJ,I,F,eK⟩:=(d6.o.on r).Ib;exact Rg.dI rfl rfl (Rg.dW a.eval _ 36 (.tmp 3) rfl (by rw [e0]; simp [go_sem,eJ,I,F,eK])) (b1 _ _ rfl (Below.refl _ _) fun _ _ _ _ _ _ _ h=>h)
  ·cases M;have dT:a.eval (.tmp 15)=bV #[O U I,O U F,J a6 a2 a1,O U N]:=seen.at_ ⟨2,.data⟩ (by simp) rfl (aS (by decide));exact Rg.gK rfl rfl (Rw.jq a.eval _ (.tmp 15) 36 35 rfl dT rfl _ (gB Tryz.func35 rfl rfl _ _)) (Fa (I,F,(a6,a2,a1),N) p x (d8.o.on r) dA.o) fun e w1 h=>by
    obtain⟨⟨s,rfl,a7⟩,cD⟩:=h;exact⟨_,rfl,b1 _ _ ⟨s,rfl,dO a7 r.size⟩ (cD.mono r.size) fun j u a8 _ _ _ cL h=>e9 j u _ _ h cD⟩
 ·intro cQ o a7 aE M;rcases (by omega:cQ=5\/cQ=6) with rfl|rfl
  ·cases M;exact⟨⟨4,.phase⟩,by simp,rfl,rfl⟩
  ·cases M;exact⟨⟨5,.data⟩,by simp,rfl,rfl⟩
 ·intro a w' df sz kp ⟨eI,b4⟩ r;have b7:a.tmps.size=26:=sz;have e4:a.tmps[2]?=aD (aH (aD ⟨q,0,ah⟩)):=(kp 2 (nd 2 (by omega))).trans rfl;have e2:a.tmps[14]?=aD (J H G c2):=by
   have h:eI 1=J H G c2:=(b4 1 (by omega)).2 (by decide);rw [<- h];exact (b4 1 (by omega)).1
  obtain⟨⟨s1,s2,s3⟩,e8,cH⟩:=(b4 3 (by omega)).2 (by decide);have e3:a.tmps[16]?=aD (nC (I,F,(s1,s2,s3),N)):=((b4 3 (by omega)).1).trans (congrArg aD e8);have d4:=c7.o.on r;show Rg.fU _ _ _ 3 4 a w';simp only [Rg.fU];refine Rg.gK rfl rfl (xB a.eval _ (.tmp 14) (.tmp 16) (.func 36) 25 36 79 34 rfl (Rg.dU e2) (Rg.dU e3) rfl rfl _ (gB bR rfl rfl _ _)) (Zq T (H,G,c2) l (I,F,(s1,s2,s3),N) w' (Bk.dK c9.o r) d9.o d7.o (aC c8.o r.size)) fun e w1 h=>?_;obtain⟨⟨⟨t1,t2,t3⟩,rfl,e7⟩,b2,cM⟩:=h;refine⟨_,rfl,?_⟩;have dC:(a.put (aD 17) (J t1 t2 t3)).tmps[17]?=aD (J t1 t2 t3):=by simp [Act.put,b7]
  show Go.wpOp _ _ _ 5 _ (a.put (aD 17) (J t1 t2 t3)) _;refine Rg.dI rfl rfl (Rg.dY _ _ 30 (.tmp 2) 2 rfl (v:=aH (aD ⟨q,2,ah⟩)) (by rw [Rg.dU ((Rg.get_put _ 17 _ 2 (by decide)).trans e4)]; simp [go_sem])) ?_;have dE:((a.put (aD 17) (J t1 t2 t3)).put (aD 18) (aH (aD ⟨q,2,ah⟩))).tmps[18]?=aD (aH (aD ⟨q,2,ah⟩)):=by simp [Act.put,b7]
  show Go.wpOp _ _ _ 6 _ ((a.put (aD 17) (J t1 t2 t3)).put (aD 18) (aH (aD ⟨q,2,ah⟩))) _;have b6:dN w1 q _ _:=(b2.block q d5.o).trans d4;have cC:=b6.cell 2;have e1:=b6.fr 2;simp only [ak,ay,aA] at cC;refine Rg.gq 25 (.tmp 18) (.tmp 17) rfl rfl rfl rfl (Rg.dU dE) (Rg.dU ((Rg.get_put _ 18 _ 17 (by decide)).trans dC)) (w':=w1.setCell ⟨q,2,ah⟩ (J t1 t2 t3)) (by simp [go_sem,cC,e1]) ?_;have eB:Off (eu (H,G,c2)).ownBlock w' w1:=⟨cM,b2.size⟩;have eC:Off (eu (H,G,c2)).ownBlock W w1:=⟨fun j a8 cL=>(cM j (aB a8 r.size) cL).trans (r.block j a8),aC r.size b2.size⟩;have eE:∀ j,(j<13\/19<=j)->((a.put (aD 17) (J t1 t2 t3)).put (aD 18) (aH (aD ⟨q,2,ah⟩))).tmps[j]?=(b8::b9::aH (aD ⟨q,0,ah⟩)::aH (aD ⟨S,0,ah⟩)::bW::bX::u6::u7::c6::u9::bA::u11::bB::u13::cS::cT::cU::cV::cW::bC::bE::bI::bM::bO::bP::bT::[])[j]?:=fun j a8=>(Rg.get_put _ 18 _ j (by omega)).trans ((Rg.get_put _ 17 _ j (by omega)).trans ((kp j (nd j (by omega))).trans ak));obtain⟨eA,e6,e5⟩:=Rg.gG (a:=(a.put (aD 17) (J t1 t2 t3)).put (aD 18) (aH (aD ⟨q,2,ah⟩))) 13 6 df (by simp [Rg.size_put,b7]) (by simp) eE;show Q .normal ((a.put (aD 17) (J t1 t2 t3)).put (aD 18) (aH (aD ⟨q,2,ah⟩))) _;rw [e5]
  match eA,e6 with
  | [cX,cY,d0,d1,d2,d3],_ =>
   exact cA.o w1 s1 s2 s3 t1 t2 t3 b6 e7 (eB.own cH (jQ (Bk.dK c9.o r)) (by decide)) eC ((r.mono c8.o).trans b2)
abbrev tO (l:List Ad):Prop:=kL Ad.id l
abbrev Fv (l:List fB):Prop:=kL (fun x:fB=>x) l
def mo (W:au) (j:Sl) (l:List Int):Prop:=∃ B,zk W B (eu j) l
theorem mo.on {W j:au} {q:Sl} {l:List Int} (h:mo W q l) (r:Below W.heap.size W j):mo j q l:=by obtain⟨B,h⟩:=h; exact⟨B,Bk.dK h r⟩
def Zt (W:au) (P:Prop) (j:Br×Bool) (e:Ending) (w':au):Prop:=(∃ q av F r u:Sl,e=aJ (.tuple #[mg j.1.me q av F r u,aQ j.2])/\iT w' j.1 q av F r u/\(P->mo w' q j.1.near))/\Below W.heap.size W w'
def mq (W:au) (b:Br) (q av u j r:Sl):Prop:=∃ (V:au) (B:Nat),Cp (vw V) B W b q av u j r
theorem mq.on {W j:au} {b:Br} {r av F q u:Sl} (h:mq W b r av F q u) (G:Below W.heap.size W j):mq j b r av F q u:=by
 obtain⟨V,B,h⟩:=h;exact⟨V,B,h.grow G⟩
theorem Cp.vbr {V wr:au} {B:Nat} {b:Br} {F av H u G:Sl} (h:Cp (vw V) B wr b F av H u G):iT wr b F av H u G where
 near:=Row.dL h.near
 dQ:=by obtain⟨l,q,r⟩:=h.dQ; exact⟨l,Row.dL q,r.mono fun _ _ j=>⟨j.1,j.2.1,j.2.2.elim Lb Row.dL⟩⟩
 seen:=Row.dL h.seen
 ent:=by obtain⟨l,q,r⟩:=h.ent; exact⟨l,Row.dL q,r.mono fun _ _ j=>⟨j.1,j.2.1,j.2.2.1,j.2.2.2.1,j.2.2.2.2.elim Lb Row.dL⟩⟩
 own:=by obtain⟨l,q,r⟩:=h.own; exact⟨l,Row.dL q,r.mono fun _ _ j=>⟨j.1,j.2.elim Lb Row.dL⟩⟩
theorem mq.br {W:au} {b:Br} {q av u j r:Sl} (h:mq W b q av u j r):iT W b q av u j r:=by
 obtain⟨V,B,h⟩:=h;exact h.vbr
theorem mq.no {W:au} {b:Br} {j av u q r:Sl} (h:mq W b j av u q r):mo W j b.near:=by
 obtain⟨V,B,h⟩:=h;exact⟨B,h.near⟩
theorem mq.uO {W j:au} {b:Br} {r av F q u:Sl} (h:mq W b r av F q u) {g:Nat} {d:Array aO} {t:aT} (T:But g W j) (a1:dN W g d t) (G:(3 == t)=aP) (H:(23 == t)=aP) (I:(36 == t)=aP) (M:(67 == t)=aP) (N:(88 == t)=aP) (S:(91 == t)=aP):mq j b r av F q u:=by
 obtain⟨V,B,h⟩:=h;exact⟨V,B,h.uO T a1 G H I M N S⟩
def zK (W:au) (P R:Prop) (j:Br×Bool) (e:Ending) (w':au):Prop:=(∃ q av F r u:Sl,e=aJ (.tuple #[mg j.1.me q av F r u,aQ j.2])/\iT w' j.1 q av F r u/\(P->mo w' q j.1.near)/\(R\/j.2=bU->mq w' j.1 q av F r u))/\Below W.heap.size W w'
theorem zK.one {W:au} {P R:Prop} {j:Br×Bool} {e:Ending} {w':au} (h:zK W P R j e w'):Zt W P j e w':=by
 obtain⟨⟨q,r,a3,a4,a5,u,F,G,_⟩,H⟩:=h;exact⟨⟨q,r,a3,a4,a5,u,F,G⟩,H⟩
theorem AZ {b:Br} {a:Ad} (h:a.id∈b.seen):fZ b a=(b,aP):=by unfold fZ; rw [if_pos h]
theorem yR {b:Br} {a:Ad} (h:¬ a.id∈b.seen):fZ b a=({ b with seen:=gL b.seen (gu b.seen a.id) a.id,dQ:=gL b.dQ (gu (b.dQ.map Ad.id) a.id) a },bU):=by unfold fZ; rw [if_neg h]
theorem VJ (b:Br) (a:Ad) (cV av d8 d4 d7:Sl) (x:ku) (w:au) (h:iT w b cV av d8 d4 d7) (eE:rP w x a) (g2:Am b) (g6:rR b) (g4:a.p.length<=900) (g7:Fv b.seen) (g8:tO b.dQ) :
  bF aK 8 #[mg b.me cV av d8 d4 d7,nC x] w (zK w (mo w cV b.near) (mq w b cV av d8 d4 d7) (fZ b a)):=by
 obtain⟨no,b7,b6⟩:=cV;obtain⟨aE,a8,a7⟩:=av;obtain⟨bE,bC,sc⟩:=d8;obtain⟨b5,b4,b2⟩:=d4;obtain⟨b9,b1,b8⟩:=d7;obtain⟨a1,a2,⟨cP,cN,cM⟩,cL⟩:=x;obtain⟨eB,g0,d5⟩:=gX w #[O U b.me,J no b7 b6,J aE a8 a7,J bE bC sc,J b5 b4 b2,J b9 b1 b8] #[O U a1,O U a2,J cP cN cM,O U cL] 30 36;have d6:=fP ((w.alloc (aF #[O U b.me,J no b7 b6,J aE a8 a7,J bE bC sc,J b5 b4 b2,J b9 b1 b8] 30)).alloc (aF #[O U a1,O U a2,J cP cN cM,O U cL] 36)) (aF #[O U 0,J ah 0 0,J ah 0 0,J ah 0 0,J ah 0 0,J ah 0 0] 30);have eC:=dR ((w.alloc (aF #[O U b.me,J no b7 b6,J aE a8 a7,J bE bC sc,J b5 b4 b2,J b9 b1 b8] 30)).alloc (aF #[O U a1,O U a2,J cP cN cM,O U cL] 36)) #[O U 0,J ah 0 0,J ah 0 0,J ah 0 0,J ah 0 0,J ah 0 0] 30;have g9:((w.alloc (aF #[O U b.me,J no b7 b6,J aE a8 a7,J bE bC sc,J b5 b4 b2,J b9 b1 b8] 30)).alloc (aF #[O U a1,O U a2,J cP cN cM,O U cL] 36)).heap.size=w.heap.size+1+1:=by simp
 rw [g9] at eC;have dE:=A (eB.trans (d6.mono eB.size));have e7:=A (g0.on d6);have e8:=A (d5.on d6);have cR:=A eC;have f1:=A h;have e0:=A eE;have e1:=A g2;have gE:=A g6;have gO:=A g4;have gR:=A g7;have gS:=A g8;have fY:a.id=(a1,a2):=eE.1.symm;have e6:=A (Vg b.me (J no b7 b6) (J aE a8 a7) (J b5 b4 b2) (J b9 b1 b8) (bE,bC,sc) b.seen (a1,a2) _ (h.seen.on dE.o));obtain⟨r,eK⟩:∃ r,decide ((a1,a2)∈b.seen)=r:=⟨_,rfl⟩;rw [eK] at e6;have f2:=A eK;have EI:=A fY;obtain⟨cF,cG,cH,T,cI,cJ⟩:=e7.o.fA;obtain⟨d2,d3,h0,h1⟩:=e8.o.Ib;obtain⟨z0,dA,dC,z3,z4,z5⟩:=cR.o.fA;obtain⟨t0,t1,t2,t3,t4,t5⟩:=cR.o.kg;have bX:=cR.o.lt;clear eB g0 d5 d6 eC g9 h eE g2 g6 g4 g7 g8 eK fY;go_enter Tryz.func8,Tryz.ntmps8;go_wp2_with fail;generalize ((w.alloc (aF #[O U b.me,J no b7 b6,J aE a8 a7,J bE bC sc,J b5 b4 b2,J b9 b1 b8] 30)).alloc (aF #[O U a1,O U a2,J cP cN cM,O U cL] 36)).alloc (aF #[O U 0,J ah 0 0,J ah 0 0,J ah 0 0,J ah 0 0,J ah 0 0] 30)=W at *;refine e6.o.mono ?_;rintro h4 w1 ⟨rfl,cS⟩;have cX:=A (dE.o.trans (cS.mono dE.o.size));have d1:=e7.o.on cS;have e9:=e8.o.on cS;have cA:=cR.o.on cS;clear e6 cS cF cG cH T cI cJ d2 d3 h0 h1 z0 dA dC z3 z4 z5 t0 t1 t2 t3 t4 t5 bX e7 e8 cR;obtain⟨cF,cG,cH,T,cI,cJ⟩:=d1.fA;obtain⟨z0,dA,dC,z3,z4,z5⟩:=cA.fA;obtain⟨t0,t1,t2,t3,t4,t5⟩:=cA.kg;have bX:=cA.lt;cases r
 ·have gA:¬ a.id∈b.seen:=by rw [EI.o]; exact of_decide_eq_false f2.o
  have e5:=A (yR gA);have fR:=A d1;have fS:=A e9;have fV:=A cA;have f5:=A d1.lt;have gI:=A (show w.heap.size+1<w1.heap.size from e9.lt);clear z0 dA dC z3 z4 z5 t0 t1 t2 t3 t4 t5 bX gA;go_wp2_with fail;refine (qL b (no,b7,b6) (aE,a8,a7) (bE,bC,sc) (b5,b4,b2) (b9,b1,b8) w w1 cX.o f1.o e1.o gE.o).mono ?_;rintro h5 cW ⟨⟨⟨j,G,s1⟩,⟨bT,bW,s2⟩,⟨bA,bB,s3⟩,⟨u,H,s4⟩,⟨F,I,s5⟩,rfl,fX⟩,cC⟩;have c9:=fR.o.on cC;have fN:=A (fS.o.on cC);have V3:=A (fV.o.on cC);clear cF cG cH T cI cJ;obtain⟨cF,cG,cH,T,cI,cJ⟩:=c9.fA;obtain⟨t0,t1,t2,t3,t4,t5⟩:=c9.kg;have bX:=c9.lt;have c6:=A (dM c9 (O U b.me) (J j G s1) (J bT bW s2) (J bA bB s3) (J u H s4) (J F I s5));have bO:=A (fX.but (eP cW w.heap.size (O U b.me) (J j G s1) (J bT bW s2) (J bA bB s3) (J u H s4) (J F I s5)) c9);have a6:=A (dJ (b:=w.heap.size) (cX.o.trans (cC.mono cX.o.size)) (aM _) (O U b.me) (J j G s1) (J bT bW s2) (J bA bB s3) (J u H s4) (J F I s5));have d0:=A ((eP cW w.heap.size (O U b.me) (J j G s1) (J bT bW s2) (J bA bB s3) (J u H s4) (J F I s5)).box fN.o (by omega));have dS:=A ((eP cW w.heap.size (O U b.me) (J j G s1) (J bT bW s2) (J bA bB s3) (J u H s4) (J F I s5)).box V3.o (by omega));have cQ:=A (show w1.heap.size<=(gH cW w.heap.size (O U b.me) (J j G s1) (J bT bW s2) (J bA bB s3) (J u H s4) (J F I s5)).heap.size by have:=cC.size; simp; omega);have e4:=A (show w.heap.size<w1.heap.size from f5.o);clear c9 fN V3 fX cC fR fS fV f5;go_upto_region 4 with fail;clear cF cG cH T cI cJ t0 t1 t2 t3 t4 t5 bX;unfold gH at c6 bO a6 d0 dS cQ;generalize ((((((cW).setCell ⟨w.heap.size,0,ah⟩ (O U b.me)).setCell ⟨w.heap.size,1,ah⟩ (J j G s1)).setCell ⟨w.heap.size,2,ah⟩ (J bT bW s2)).setCell ⟨w.heap.size,3,ah⟩ (J bA bB s3)).setCell ⟨w.heap.size,4,ah⟩ (J u H s4)).setCell ⟨w.heap.size,5,ah⟩ (J F I s5)=h2 at *;obtain⟨la,fW,eA⟩:=bO.o.dQ;have d9:=A fW;have e2:=A eA;have e3:=A (keys_eq eA);clear fW eA;refine aog _ h2 w1.heap.size la w.heap.size (w.heap.size+1) b.me (J j G s1) bT bW s2 (J bA bB s3) (J u H s4) (J F I s5) a1 a2 cP cN cM cL a.p c6.o d0.o d9.o ?_ ?_ cQ.o e4.o (e0.o.2.2.on a6.o) gO.o ?_
  ·rw [xD,e3.o,<- xD]; exact gS.o
  ·rw [e2.o.len]; exact e1.o.dQ
  intro bM hH hI hJ hK hL hM hE hF hG t1 t2 t3 eI cU g1 bI bP;have eN:=A (bO.o.aod (Eb:=(t1,t2,t3)) (al:=gL b.dQ (gu (b.dQ.map Ad.id) a.id) a) bI ⟨_,cU,by
   have cT:=jQ d9.o;have d5:=e2.o.mono fun _ _ q=>q.off bI cT (by decide);have eJ:fG mR la (a1,a2)=gu (b.dQ.map Ad.id) a.id:=by rw [iN,e3.o,EI.o]
   rw [<- eJ];exact zH d5 _ ⟨e0.o.1,e0.o.2.1,aS (dO g1 cQ.o)⟩⟩)
  have eR:=A (show dN bM (w.heap.size+1) _ _ from (bP.block _ gI.o).trans d0.o);have eS:=A (show dN bM (w.heap.size+1+1) _ _ from bI.box dS.o (jQ d9.o) (by decide));have dT:=A (show dN (bM.setCell ⟨w.heap.size,2,ah⟩ (J t1 t2 t3)) w.heap.size #[O U b.me,J j G s1,J t1 t2 t3,J bA bB s3,J u H s4,J F I s5] 30 by simpa using eD (k:=2) eI (J t1 t2 t3));have cY:=A (eN.o.but (eH bM w.heap.size 2 (J t1 t2 t3)) eI);have dZ:=A ((eH bM w.heap.size 2 (J t1 t2 t3)).box eR.o (by omega));have eV:=A ((eH bM w.heap.size 2 (J t1 t2 t3)).box eS.o (by omega));have eW:=A (show Below w.heap.size w (bM.setCell ⟨w.heap.size,2,ah⟩ (J t1 t2 t3)) from (a6.o.trans (bP.mono (aU e4.o))).setCell (p:=⟨w.heap.size,2,ah⟩) (aM _) _);have f0:=A (show w1.heap.size<=(bM.setCell ⟨w.heap.size,2,ah⟩ (J t1 t2 t3)).heap.size by have:=cQ.o; have:=bP.size; simp; omega);clear eI cU g1 bI bP eN eR eS c6 bO d0 dS a6 cQ d9 e2 e3;generalize bM.setCell ⟨w.heap.size,2,ah⟩ (J t1 t2 t3)=gC at *;have T:=dT.o.cell 3;have d3:=dZ.o.cell 1;have d2:=dZ.o.cell 0;simp only [ak,ay,aA] at T d2 d3;go_wp2_with fail;refine (Zp w1.heap.size (bA,bB,s3) b.seen (a1,a2) gC cY.o.seen gR.o e1.o.seen f0.o).mono ?_;rintro h6 cD ⟨⟨⟨M,N,S⟩,rfl,cU⟩,bP,g5⟩;have bI:Off (eu (bA,bB,s3)).ownBlock gC cD:=⟨g5,bP.size⟩;have eQ:=A (cY.o.aoe (Mw:=(M,N,S)) (sl:=gL b.seen (gu b.seen a.id) a.id) bI (by
   have eJ:fG uQ b.seen (uQ (a1,a2))=gu b.seen a.id:=by rw [iN,EI.o]; simp
   rw [<- eJ,EI.o];exact cU))
  have cT:=jQ cY.o.seen;have c7:=bI.box dT.o cT (by decide);have f3:=bI.box eV.o cT (by decide);have f4:=eW.o.trans (bP.mono (aU e4.o));have f6:=A (show dN (cD.setCell ⟨w.heap.size,3,ah⟩ (J M N S)) w.heap.size #[O U b.me,J j G s1,J t1 t2 t3,J M N S,J u H s4,J F I s5] 30 by simpa using eD (k:=3) c7 (J M N S));have f7:=A ((eH cD w.heap.size 3 (J M N S)).box f3 (by omega));have f8:=A (eQ.o.but (eH cD w.heap.size 3 (J M N S)) c7);have f9:=A (show Below w.heap.size w (cD.setCell ⟨w.heap.size,3,ah⟩ (J M N S)) from f4.setCell (p:=⟨w.heap.size,3,ah⟩) (aM _) _);clear T d2 d3;have T:=c7.cell 3;have t3:=c7.fr 3;have bX:=c7.lt;simp only [ak,ay,aA] at T;clear cU bP g5 bI cT c7 f3 f4 eQ cY dT dZ eV eW f0;go_upto_region 6 with fail;clear T t3 bX;generalize cD.setCell ⟨w.heap.size,3,ah⟩ (J M N S)=h3 at *;have fL:=f6.o;have c8:=f7.o;obtain⟨cF,cG,cH,T,cI,cJ⟩:=fL.fA;obtain⟨z0,dA,dC,z3,z4,z5⟩:=c8.fA;obtain⟨h7,h8,h9,hA,hC,hD⟩:=c8.kg;have bX:=c8.lt;have c6:=A (dM c8 (O U b.me) (J j G s1) (J t1 t2 t3) (J M N S) (J u H s4) (J F I s5));have bO:=A (f8.o.but (eP h3 (w.heap.size+1+1) (O U b.me) (J j G s1) (J t1 t2 t3) (J M N S) (J u H s4) (J F I s5)) c8);have a6:=A (dJ (b:=w.heap.size+1+1) f9.o (by omega) (O U b.me) (J j G s1) (J t1 t2 t3) (J M N S) (J u H s4) (J F I s5));clear fL c8 f6 f7 f8 f9;go_wp2_with fail;obtain⟨v0,eL,eM,v3,v4,v5⟩:=c6.o.fA;refine aZ (v:=.tuple #[bV #[O U b.me,J j G s1,J t1 t2 t3,J M N S,J u H s4,J F I s5],aQ bU]) (by simp [results,bK,go_sem,v0,eL,eM,v3,v4,v5]) rfl ?_;rw [e5.o];exact⟨⟨(j,G,s1),(t1,t2,t3),(M,N,S),(u,H,s4),(F,I,s5),rfl,bO.o.vbr,fun _=>⟨_,bO.o.near⟩,fun _=>⟨_,_,bO.o⟩⟩,a6.o⟩
 ·have g3:a.id∈b.seen:=by rw [EI.o]; exact of_decide_eq_true f2.o
  have e5:=A (AZ g3);have c6:=A (dM cA (O U b.me) (J no b7 b6) (J aE a8 a7) (J bE bC sc) (J b5 b4 b2) (J b9 b1 b8));have a6:=A (dJ (b:=w.heap.size+1+1) cX.o (by omega) (O U b.me) (J no b7 b6) (J aE a8 a7) (J bE bC sc) (J b5 b4 b2) (J b9 b1 b8));clear g3 d1 e9 cA;go_wp2_with fail;obtain⟨v0,eL,eM,v3,v4,v5⟩:=c6.o.fA;refine aZ (v:=.tuple #[bV #[O U b.me,J no b7 b6,J aE a8 a7,J bE bC sc,J b5 b4 b2,J b9 b1 b8],aQ aP]) (by simp [results,bK,go_sem,v0,eL,eM,v3,v4,v5]) rfl ?_;rw [e5.o];exact⟨⟨(no,b7,b6),(aE,a8,a7),(bE,bC,sc),(b5,b4,b2),(b9,b1,b8),rfl,f1.o.on a6.o,fun h=>h.on a6.o,fun h=>(h.resolve_right (by simp)).on a6.o⟩,a6.o⟩
theorem VL (b:Br) (a:Ad) (j av u q r:Sl) (x:ku) (w:au) (h:iT w b j av u q r) (F:rP w x a) (G:Am b) (I:rR b) (H:a.p.length<=900) (M:Fv b.seen) (N:tO b.dQ) :
  bF aK 8 #[mg b.me j av u q r,nC x] w (Zt w (mo w j b.near) (fZ b a)) :=
 (VJ b a j av u q r x w h F G I H M N).mono fun _ _ h=>h.one
def xG (b:Br) (x:fB) (f:Int):Br×Bool:=match gY b.dQ x with
 | none=>(b,aP)
 | some a=>if a.par=f then ({ b with dQ:=b.dQ.filter fun e=>decide (e.id≠x),ent:=b.ent.filter fun e=>decide (e.tree≠x) },bU) else (b,aP)
theorem QZ {al:List Ad} (r:tO al) {k:Nat} {a:Ad} {x:fB} (q:al[k]?=aD a) (S:a.id=x):al.filter (fun e=>decide (e.id≠x))=cutAt al k:=by
 subst S;unfold cutAt;have I:al=al.take k++(a::al.drop (k+1)):=by
  have T:=(Z.1 q).1;have M:=(Z.1 q).2;rw [<- M,List.getElem_cons_drop,List.take_append_drop]
 conv=>lhs; rw [I]
 rw [List.filter_append,List.filter_cons_of_neg (by simp)];have a1:=List.pairwise_iff_getElem.1 r;have G:(al.take k).filter (fun e=>decide (e.id≠a.id))=al.take k:=by
  rw [aY];intro y u;obtain⟨F,j⟩:=aV.1 u;have N:=(Z.1 j).1;rw [bD] at N;rw [List.getElem?_take_of_lt (by omega)] at j;have:=kM r (show F<k by omega) j q;refine decide_eq_true fun e=>?_;rw [e,jN] at this;cases this
 have H:(al.drop (k+1)).filter (fun e=>decide (e.id≠a.id))=al.drop (k+1):=by
  rw [aY];intro y u;obtain⟨F,j⟩:=aV.1 u;rw [List.getElem?_drop] at j;have:=kM r (show k<k+1+F by omega) q j;refine decide_eq_true fun e=>?_;rw [e,jN] at this;cases this
 rw [G,H]
theorem Fw {b:Br} (N:tO b.dQ) (x:fB) (f:Int):xG b x f=iZ b x f:=by
 unfold xG iZ;by_cases h:fQ (b.dQ.map Ad.id) x=-1
 ·have M:gY b.dQ x=ah:=uR fun u a r=>Jy (key:=Ad.id) h u a r;rw [M];cases b.dQ[(fQ (b.dQ.map Ad.id) x).toNat]? with
  | none=>rfl
  | some a=>simp only; rw [if_pos h]
 ·obtain⟨k,F⟩:∃ k:Nat,fQ (b.dQ.map Ad.id) x=k:=⟨(fQ (b.dQ.map Ad.id) x).toNat,by have:=tC (b.dQ.map Ad.id) x; omega⟩;obtain⟨j,H⟩:=AY F;rw [bg] at j;cases q:b.dQ[k]? with
  | none=>rw [q] at j; cases j
  | some a =>
   rw [q] at j;have G:a.id=x:=aL j;have I:gY b.dQ x=aD a:=tN q G fun u z r S=>H u z.id r (by rw [bg,S]; rfl);rw [I,F,Int.toNat_natCast,q];simp only;rw [if_neg (show ¬ ((k:Int)=-1) by omega)]
   split
   ·rw [QZ N q G]
   ·rfl
abbrev Li (p:List C5):Prop:=∀ x∈p,x.1.size<=maxLen/\x.2.2.2.2.size<=maxLen
def DV (b:Br) (a:Ad):Bool:=decide (a.id∈b.seen) && (jm b.near a.par && Wr.fT a.p)
theorem adM (b:Br) (a:Ad) (b9 av bE b5 bA:Sl) (x:ku) (w:au) (h:iT w b b9 av bE b5 bA) (T:rP w x a) (b7:Am b) (cC:b.near.Pairwise (·<=·)) (b8:Fv b.seen) (cD:Li a.p) :
  bF aK 76 #[mg b.me b9 av bE b5 bA,nC x] w fun e w'=>e=aJ (aQ (DV b a))/\Below w.heap.size w w':=by
 obtain⟨no,cG,cF⟩:=b9;obtain⟨bX,bW,bT⟩:=av;obtain⟨bC,bB,sc⟩:=bE;obtain⟨cA,c9,c7⟩:=b5;obtain⟨cI,c6,cH⟩:=bA;obtain⟨r,u,⟨cM,cL,cJ⟩,a1⟩:=x;obtain⟨b6,X,Y⟩:=gX w #[O U b.me,J no cG cF,J bX bW bT,J bC bB sc,J cA c9 c7,J cI c6 cH] #[O U r,O U u,J cM cL cJ,O U a1] 30 36;have bI:=A b6;have bM:=A X;have bO:=A Y;have a2:=A (Tm (J bC bB sc) b.seen (r,u) _ (h.seen.on b6) b8 b7.seen);have cP:=A (fun M (q:Below w.heap.size w M)=>Jp b.me (no,cG,cF) (J bX bW bT) (J bC bB sc) (J cA c9 c7) (J cI c6 cH) b.near a1 M (h.near.on q) cC b7.near);have cQ:=A (fun M (q:Below w.heap.size w M)=>Avp.yP (J cM cL cJ) a.p M (T.2.2.on q) cD);rw [tL b8] at a2;have b4:=A (show DV b a=(decide ((r,u)∈b.seen) && (jm b.near a1 && Wr.fT a.p)) by unfold DV; rw [<- T.1,<- T.2.1]);generalize DV b a=d1 at *;have c8:decide ((r,u)∈bZ uQ b.seen)=decide ((r,u)∈b.seen):=by rw [show bZ uQ b.seen=b.seen from List.map_id' _]
 rw [c8] at a2;generalize decide ((r,u)∈b.seen)=cT at *;generalize jm b.near a1=cU at *;generalize Wr.fT a.p=d0 at *;generalize fG uQ b.seen (r,u)=cY at *;obtain⟨a6,a7,a8,aE,b1,b2⟩:=X.fA;obtain⟨H,F,G,I⟩:=Y.Ib;clear b6 X Y h T b7 cC b8 cD c8;go_enter Tryz.func76,Tryz.ntmps76;go_wp2_with fail;refine a2.o.mono ?_;rintro cV w1 ⟨rfl,j⟩;have N:=A (bI.o.trans (j.mono bI.o.size));have cR:=A (bM.o.on j);have bP:=A (bO.o.on j);clear j a6 a7 a8 aE b1 b2 H F G I bM bO;obtain⟨a6,a7,a8,aE,b1,b2⟩:=cR.o.fA;obtain⟨H,F,G,I⟩:=bP.o.Ib;cases cT
 ·go_wp2_with fail;go_ret;exact⟨by rw [b4.o]; rfl,N.o⟩
 ·go_wp2_with fail;refine (cP.o _ N.o).mono ?_;rintro cW d2 ⟨rfl,j⟩;have S:=A (N.o.trans (j.mono N.o.size));have cS:=A (bP.o.on j);clear j a6 a7 a8 aE b1 b2 H F G I;obtain⟨H,F,G,I⟩:=cS.o.Ib;cases cU
  ·go_wp2_with fail;go_ret;exact⟨by rw [b4.o]; rfl,S.o⟩
  ·go_wp2_with fail;refine (cQ.o _ S.o).mono ?_;rintro cX d3 ⟨rfl,j⟩;have cN:=A (S.o.trans (j.mono S.o.size));clear j H F G I;go_wp2;go_ret;exact⟨by rw [b4.o]; rfl,cN.o⟩
def qC (b:Br) (e:En):Bool:=match gY b.dQ e.tree with
 | none=>aP
 | some a=>!(e.from_ == a.par && !(a.par == -1)) && (jm b.near e.from_ && (!(e.up && a.par == -1) && Wr.fT e.p))
theorem Zu {W:au} {l:List ku} {al:List Ad} (F:eY (rP W) l al) (S:kL mR l) (t:fB):(gZ mR l t=aP/\gY al t=ah)\/(gZ mR l t=bU/\∃ (y:ku) (a:Ad),l[fG mR l t]?=aD y/\gY al t=aD a/\rP W y a):=by
 cases q:gZ mR l t with
 | false =>
  refine bL ⟨rfl,uR fun j a H e=>?_⟩;obtain⟨y,r,G⟩:=F.at j a H;have a2:t∈l.map mR:=bf.2 ⟨y,aN r,by rw [<- e]; exact G.1⟩;rw [tL S,decide_eq_true a2] at q;cases q
 | true =>
  right;refine⟨rfl,?_⟩;unfold gZ at q;cases r:l[fG mR l t]? with
  | none=>rw [r] at q; cases q
  | some y =>
   rw [r] at q;have N:mR y=t:=of_decide_eq_true q;have a1:=(Z.1 r).1;obtain⟨a,M⟩:∃ a,al[fG mR l t]?=aD a:=⟨_,aj (by rw [<- F.len]; exact a1)⟩;obtain⟨a8,T,G⟩:=F.at _ a M;rw [r] at T;obtain rfl:=aL T;refine⟨y,a,rfl,tN M (by rw [<- G.1]; exact N) (fun j z H a7 e=>?_),G⟩;obtain⟨u,hu,a6⟩:=F.at j z a7;have I:=kM S H hu r;rw [show mR u=t from a6.1.trans e,N,jN] at I;cases I
theorem adN (b:Br) (e:En) (d4 av d7 cX d5:Sl) (x:iY) (w:au) (h:iT w b d4 av d7 cX d5) (cH:jF w x e) (cR:Am b) (dZ:b.near.Pairwise (·<=·)) (d2:tO b.dQ) (e1:Li e.p) :
  bF aK 79 #[mg b.me d4 av d7 cX d5,qd x] w fun r w'=>r=aJ (aQ (qC b e))/\Below w.heap.size w w':=by
 obtain⟨no,bM,bI⟩:=d4;obtain⟨T,S,N⟩:=av;obtain⟨bW,bT,sc⟩:=d7;obtain⟨bE,bC,bB⟩:=cX;obtain⟨bP,bA,bO⟩:=d5;obtain⟨F,G,b8,b9,⟨a7,a6,a2⟩,H,a1⟩:=x;obtain⟨cY,X,Y⟩:=gX w #[O U b.me,J no bM bI,J T S N,J bW bT sc,J bE bC bB,J bP bA bO] #[O U F,O U G,O U b8,O U b9,J a7 a6 a2,O U H,aQ a1] 30 67;have cI:=A cY;have dE:=A X;have dS:=A Y;obtain⟨la,c6,c7⟩:=h.dQ;have d3:kL mR la:=by
  have:=(xD Ad.id b.dQ).1 d2;rw [xD,show la.map mR=b.dQ.map Ad.id from by
   clear c6 this d2 cR h;generalize b.dQ=al at c7
   induction c7 with
   | nil=>rfl
   | cons q _ eL=>rw [aR,aR,eL]; exact congrArg (·::_) q.1]
  exact this
 have d0:la.length<=900:=by rw [c7.len]; exact cR.dQ
 have bX:=A (Tq (J T S N) la (F,G,(ah,0,0),0) _ (c6.on cY) d3 d0);have d8:=A (fun cA (q:Below w.heap.size w cA)=>Jp b.me (no,bM,bI) (J T S N) (J bW bT sc) (J bE bC bB) (J bP bA bO) b.near H cA (h.near.on q) dZ cR.near);have cT:=A (fun cA (q:Below w.heap.size w cA)=>Avp.yP (J a7 a6 a2) e.p cA (cH.2.2.2.2.on q) e1);have eC:=Zu c7 d3 (F,G);have dA:=cH.1;have d9:=cH.2.2.1;have dC:=cH.2.2.2.1;have cU:=A c6;have eR:=A d0;have M:=A (show qC b e=match gY b.dQ (F,G) with | none=>aP | some a=>!(H == a.par && !(a.par == -1)) && (jm b.near H && (!(a1 && a.par == -1) && Wr.fT e.p)) by unfold qC; rw [<- dA,<- d9,<- dC]);generalize qC b e=e8 at *;generalize jm b.near H=d6 at *;generalize Wr.fT e.p=eN at *;obtain⟨cJ,cL,cM,cN,cP,cQ⟩:=X.fA;obtain⟨b2,aE,b1,b4,b5,b6,b7⟩:=Y.oz;clear cY X Y h cH cR dZ d2 e1 d3 d0 dA d9 dC;rcases eC with⟨t0,cG⟩|⟨t0,y,a,e2,cG,e3⟩
 ·have bX:Hq (bF aK 103 #[J T S N,bV #[O U F,O U G,J ah 0 0,O U 0],.func (.func 36) #[] #[]] ((w.alloc (aF #[O U b.me,J no bM bI,J T S N,J bW bT sc,J bE bC bB,J bP bA bO] 30)).alloc (aF #[O U F,O U G,O U b8,O U b9,J a7 a6 a2,O U H,aQ a1] 67)) fun cF w'=>cF=aJ (.tuple #[O U (fG mR la (F,G)),aQ aP])/\Below ((w.alloc (aF #[O U b.me,J no bM bI,J T S N,J bW bT sc,J bE bC bB,J bP bA bO] 30)).alloc (aF #[O U F,O U G,O U b8,O U b9,J a7 a6 a2,O U H,aQ a1] 67)).heap.size ((w.alloc (aF #[O U b.me,J no bM bI,J T S N,J bW bT sc,J bE bC bB,J bP bA bO] 30)).alloc (aF #[O U F,O U G,O U b8,O U b9,J a7 a6 a2,O U H,aQ a1] 67)) w'):=by rw [<- t0]; exact bX
  have eI:=A (show e8=aP by rw [M.o,cG]);clear M t0 cG cU c6 c7;go_enter bS,bQ;go_wp2_with fail;refine bX.o.mono ?_;rintro cF w1 ⟨rfl,j⟩;have u:=A (cI.o.trans (j.mono cI.o.size));clear j;go_wp2_with fail;go_ret;exact⟨by rw [eI.o]; rfl,u.o⟩
 ·have bX:Hq (bF aK 103 #[J T S N,bV #[O U F,O U G,J ah 0 0,O U 0],.func (.func 36) #[] #[]] ((w.alloc (aF #[O U b.me,J no bM bI,J T S N,J bW bT sc,J bE bC bB,J bP bA bO] 30)).alloc (aF #[O U F,O U G,O U b8,O U b9,J a7 a6 a2,O U H,aQ a1] 67)) fun cF w'=>cF=aJ (.tuple #[O U (fG mR la (F,G)),aQ bU])/\Below ((w.alloc (aF #[O U b.me,J no bM bI,J T S N,J bW bT sc,J bE bC bB,J bP bA bO] 30)).alloc (aF #[O U F,O U G,O U b8,O U b9,J a7 a6 a2,O U H,aQ a1] 67)).heap.size ((w.alloc (aF #[O U b.me,J no bM bI,J T S N,J bW bT sc,J bE bC bB,J bP bA bO] 30)).alloc (aF #[O U F,O U G,O U b8,O U b9,J a7 a6 a2,O U H,aQ a1] 67)) w'):=by rw [<- t0]; exact bX
  obtain⟨eA,e9,cS⟩:=c6.len;have cS:J T S N=J eA la.length e9:=cS;obtain⟨rfl,rfl,rfl⟩:T=eA/\S=la.length/\N=e9:=by simpa using cS
  obtain⟨p,e4,e6⟩:=Mv cU.o rfl rfl e2;obtain⟨eV,eW,⟨f2,f1,f0⟩,c8⟩:=y;have e0:a.par=c8:=e3.2.1.symm;have M:=A (show e8=(!(H == c8 && !(c8 == -1)) && (d6 && (!(a1 && c8 == -1) && eN))) by rw [M.o,cG]; simp only; rw [e0]);obtain⟨eM,d1⟩:∃ q,(H == c8)=q:=⟨_,rfl⟩;obtain⟨e7,eK⟩:∃ q,(c8 == -1)=q:=⟨_,rfl⟩;rw [d1,eK] at M;generalize fG mR la (F,G)=eS at *;generalize la.length=n at *;clear t0 cG cU c6 c7 e2 e3 e0 cS;have eE:=A e6;clear e6;go_enter bS,bQ;go_wp2_with fail;refine bX.o.mono ?_;rintro cF w1 ⟨rfl,j⟩;have u:=A (cI.o.trans (j.mono cI.o.size));have cV:=A (dE.o.on j);have cC:=A (dS.o.on j);clear j cJ cL cM cN cP cQ b2 aE b1 b4 b5 b6 b7 dE dS bX;obtain⟨cJ,cL,cM,cN,cP,cQ⟩:=cV.o.fA;obtain⟨b2,aE,b1,b4,b5,b6,b7⟩:=cC.o.oz;have e5:=(eE.o w1 u.o).2.2.2;cases eM
  ·go_wp2_with fail
   go_quiet (fail)
   go_wp2_with fail;have a8:=A (show Below w.heap.size w (w1.drewN nq) from ⟨u.o.os,u.o.tape,u.o.output,u.o.size,u.o.block⟩);have cD:=A (show dN (w1.drewN nq) (w.heap.size+1) #[O U F,O U G,O U b8,O U b9,J a7 a6 a2,O U H,aQ a1] 67 from cC.o);clear cJ cL cM cN cP cQ b2 aE b1 b4 b5 b6 b7 e5 e4 cV cC d1;refine (d8.o _ a8.o).mono ?_;rintro eJ eQ ⟨rfl,j⟩;have I:=A (a8.o.trans (j.mono a8.o.size));have cW:=A (cD.o.on j);clear j a8 cD u;obtain⟨b2,aE,b1,b4,b5,b6,b7⟩:=cW.o.oz;cases d6
   ·go_wp2_with fail;go_ret;exact⟨by rw [M.o]; simp,I.o⟩
   cases a1
   ·go_wp2_with fail;refine (cT.o _ I.o).mono ?_;rintro dT eB ⟨rfl,j⟩;have c9:=A (I.o.trans (j.mono I.o.size));clear j b2 aE b1 b4 b5 b6 b7;go_wp2;go_ret;exact⟨by rw [M.o]; simp,c9.o⟩
   cases e7
   ·go_wp2_with fail;refine (cT.o _ I.o).mono ?_;rintro dT eB ⟨rfl,j⟩;have c9:=A (I.o.trans (j.mono I.o.size));clear j b2 aE b1 b4 b5 b6 b7;go_wp2;go_ret;exact⟨by rw [M.o]; simp,c9.o⟩
   ·go_wp2_with fail;go_ret;exact⟨by rw [M.o]; simp,I.o⟩
  ·cases e7
   ·go_wp2_with fail
    go_quiet (fail)
    go_wp2_with fail;go_ret;exact⟨by rw [M.o]; simp,⟨u.o.os,u.o.tape,u.o.output,u.o.size,u.o.block⟩⟩
   ·go_wp2_with fail
    go_quiet (fail)
    go_wp2_with fail;have a8:=A (show Below w.heap.size w (w1.drewN nq) from ⟨u.o.os,u.o.tape,u.o.output,u.o.size,u.o.block⟩);have cD:=A (show dN (w1.drewN nq) (w.heap.size+1) #[O U F,O U G,O U b8,O U b9,J a7 a6 a2,O U H,aQ a1] 67 from cC.o);clear cJ cL cM cN cP cQ b2 aE b1 b4 b5 b6 b7 e5 e4 cV cC d1;refine (d8.o _ a8.o).mono ?_;rintro eJ eQ ⟨rfl,j⟩;have I:=A (a8.o.trans (j.mono a8.o.size));have cW:=A (cD.o.on j);clear j a8 cD u;obtain⟨b2,aE,b1,b4,b5,b6,b7⟩:=cW.o.oz;cases d6
    ·go_wp2_with fail;go_ret;exact⟨by rw [M.o]; simp,I.o⟩
    cases a1
    ·go_wp2_with fail;refine (cT.o _ I.o).mono ?_;rintro dT eB ⟨rfl,j⟩;have c9:=A (I.o.trans (j.mono I.o.size));clear j b2 aE b1 b4 b5 b6 b7;go_wp2;go_ret;exact⟨by rw [M.o]; simp,c9.o⟩
    ·go_wp2_with fail;go_ret;exact⟨by rw [M.o]; simp,I.o⟩
end Go.Proofs.YtghlpefopidlaaaGreat.Av
