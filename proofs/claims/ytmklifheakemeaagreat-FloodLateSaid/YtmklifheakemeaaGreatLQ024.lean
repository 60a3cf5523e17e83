/-
  Forget's closure, sl. Conditions as told.
-/
import Derived.Test.YtmklifheakemeaaGreatLQ021
set_option maxRecDepth 100000
set_option maxHeartbeats 64000000
open Go.Ending renaming returned->aA
open Go.Instr renaming sliceAt->aD,indexAt->aO
open Go.IntKind renaming i64->O
open Go.IntWalk renaming i64_in->au
open Go.Lib renaming hid->D
open Go.Proofs.Tryz renaming prog->ak,ntmps96->aQ,ntmps98->aR,func96->aT,func98->aU
open Go.RowKit.Below renaming refl->aC
open Go.Value renaming slice->J,int->K,pointer->aB,bool->aM
open _root_.List renaming getElem?_map->X,getElem?_eq_getElem->Y,getElem?_eq_some_iff->ay,getElem?_cons_zero->aF,getElem?_cons_succ->aG,take_of_length_le->aH,getElem?_toArray->aI,mem_iff_getElem?->aJ,filter_eq_self->aL,length_set->aN
open _root_.Nat renaming lt_of_lt_of_le->V,le_trans->ah,le_refl->aK,lt_or_ge->aP,zero_le->aS
open _root_.Option renaming none->U,some->Z
open Option.some renaming inj->aj
namespace Go.Proofs.YtmklifheakemeaaGreat.Av
open Go.RowKit Go.Sort Rw YtmklifheakemeaaGreat.Nm Pr Bk
theorem abe {w:World} {B g n cap k:Nat} {l:List jk} (x:jk) (h:Own ED w B (J (Z ⟨g,0,U⟩) n cap) l) (hk:k<l.length) :
  Em ED B g (J (Z ⟨g,0,U⟩) n cap) (l.set k x) w ((((w.setCell ⟨g,k * 4,U⟩ (K O x.1)).setCell ⟨g,k * 4+1,U⟩ (K O x.2.1)).setCell ⟨g,k * 4+2,U⟩ (dO x.2.2.1)).setCell ⟨g,k * 4+3,U⟩ (K O x.2.2.2)):=by
 have hln:=gH h;subst hln;have h:w.ownsRow B 74 4 (J (Z ⟨g,0,U⟩) l.length cap) l.length (flat ED l):=h;have s1:=(h.stored (k * 4) (K O x.1)).1;have s2:=(s1.stored (k * 4+1) (K O x.2.1)).1;have s3:=(s2.stored (k * 4+2) (dO x.2.2.1)).1;have s4:=(s3.stored (k * 4+3) (K O x.2.2.2)).1;refine⟨?_,((((dM _ g _ _).trans (dM _ g _ _)).trans (dM _ g _ _)).trans (dM _ g _ _)),fun B' W hB hb=>((((hb.setCell (p:=⟨g,_,U⟩) hB _).setCell (p:=⟨g,_,U⟩) hB _).setCell (p:=⟨g,_,U⟩) hB _).setCell (p:=⟨g,_,U⟩) hB _)⟩;have e:=rZ l k x hk;show World.ownsRow _ B 74 4 _ (l.set k x).length (flat ED (l.set k x));rw [e,aN];exact s4
theorem Bn (x:jk) (b2:Nat) (c d:Int) (r:Bool) (hr:decide (jI x=(c,d))=r) (w:World) (h:dI w b2 #[K O c,K O d] 31):Calls ak 97 #[lQ x,aB (Z ⟨b2,0,U⟩)] w fun e w'=>e=aA (aM r)/\Below w.heap.size w w':=by
 obtain⟨y1,y2,⟨yo,yn,yc⟩,y4⟩:=x;have n0:=gM w (.cells #[K O y1,K O y2,J yo yn yc,K O y4] 74);have hx:=dL w #[K O y1,K O y2,J yo yn yc,K O y4] 74;have x1:=hx.cell 1;have x0:=hx.cell 0;obtain⟨z0,z1⟩:=(h.on n0).cs2;simp only [aI,aF,aG] at x0 x1;have he:=qJ y1 y2 c d r (by
  rw [<- hr];by_cases h1:y1=c <;> by_cases h2:y2=d <;> simp [h1,h2])
 have N0:=D n0;clear n0 hx h hr;go_enter Tryz.func97,Tryz.ntmps97;go_wp2;go_ret;exact⟨rfl,N0.out⟩
theorem Mf (v:Sl) (l:List jk) (b2:Nat) (c d:Int) (w:World) (hs:Row ED w (dO v) l) (hb2:dI w b2 #[K O c,K O d] 31) :
  Calls ak 148 #[dO v,.func (.func 97) #[] #[aB (Z ⟨b2,0,U⟩)]] w fun e w'=>e=aA (K O (fE (l.map jI) (c,d)))/\Below w.heap.size w w':=by
 obtain⟨so,sn,sc⟩:=v;obtain⟨ao,ac,hv⟩:=hs.len;have hv:J so sn sc=J ao l.length ac:=hv;obtain⟨rfl,rfl,rfl⟩:so=ao/\sn=l.length/\sc=ac:=by simpa using hv
 have HS:=D hs;have X2:=D hb2;have lm:=hs.most;unfold maxLen at lm;obtain⟨n,hn⟩:∃ n,n=l.length:=⟨_,rfl⟩;rw [<- hn] at HS lm ⊢;have HN:=D hn.symm;clear hb2 hs hv hn;go_enter Tryz.func148,Tryz.ntmps148;go_wp2
 go_loopw [8] (fun i wr=>∃ k:Nat,k<=n/\i=K O k/\Below w.heap.size w wr/\∀ (j:Nat) (y:jk),j<k->l[j]?=Z y->jI y≠(c,d)) (fun i _=>n-(intOf i).toNat)
 case atStart=>exact⟨0,aS _,rfl,aC _ _,fun j y h=>by omega⟩
 case round =>
  obtain⟨k,hk,rfl,hbe,hall⟩:=hrel;have BE:=D hbe;have AL:=D hall;clear hbe hall;by_cases hlt:k<n
  ·obtain⟨y,hy⟩:∃ y,l[k]?=Z y:=⟨_,Y (by rw [HN.out]; exact hlt)⟩;obtain⟨p,ix,px⟩:=Qq HS.out rfl HN.out hy;obtain⟨p0,p1,p2,p3⟩:=px wr BE.out;obtain⟨r,hr⟩:∃ r,decide (jI y=(c,d))=r:=⟨_,rfl⟩;have CL:=D (Bn y b2 c d r hr wr (X2.out.on BE.out));have HY:=D hy;have HR:=D hr;obtain⟨y1,y2,⟨yo,yn,yc⟩,y4⟩:=y;simp only at p0 p1 p2 p3;have hw3:IntKind.i64.wrap ((k:Int)+1)=(k:Int)+1:=au _ (by omega);clear px hy hr;go_wp2_with fail;refine CL.out.mono ?_;rintro e w1 ⟨rfl,hb⟩;have B1:=D (BE.out.trans (hb.mono BE.out.size));clear hb CL ix p0 p1 p2 p3;cases r
   ·go_wp2
    go_roundw
    case rel=>exact⟨k+1,by omega,by go_num,B1.out,fun j y' hj h1=>by
     rcases aP j k with h3|h3
     ·exact AL.out j y' h3 h1
     ·obtain rfl:j=k:=by omega
      have e1:=HY.out;rw [h1] at e1;rw [aj e1];exact of_decide_eq_false HR.out⟩
    case measure=>simp [intOf]; omega
   ·go_wp2;go_ret;exact⟨by rw [vB (l.map jI) k (c,d) (by rw [X,HY.out]; exact congrArg Z (of_decide_eq_true HR.out)) (fun j z hj hz=>by
     rw [X] at hz;cases hz2:l[j]? with
     | none=>rw [hz2] at hz; cases hz
     | some u=>rw [hz2] at hz; rw [<- aj hz]; exact AL.out j u hj hz2)]; rfl,B1.out⟩
  ·obtain rfl:k=n:=by omega
   go_wp2;go_ret;exact⟨by rw [qw (l.map jI) (c,d) (fun j z hz=>by
     rw [X] at hz;cases hz2:l[j]? with
     | none=>rw [hz2] at hz; cases hz
     | some u=>rw [hz2] at hz; rw [<- aj hz]; exact AL.out j u (by rw [<- HN.out]; exact (ay.1 hz2).1) hz2)]; rfl,BE.out⟩
abbrev keepD (c d:Int) (x:jk):Bool:=decide (jI x≠(c,d))
theorem Mg (B:Nat) (v:Sl) (l:List jk) (b2:Nat) (c d:Int) (w:World) (ho:Own ED w B (dO v) l) (hb2:dI w b2 #[K O c,K O d] 31) (hB:B<=w.heap.size) :
  Calls ak 96 #[dO v,.func (.func 97) #[] #[aB (Z ⟨b2,0,U⟩)]] w fun e w'=>(∃ v':Sl,e=aA (dO v')/\Own ED w' B (dO v') (l.filter (keepD c d)))/\Below B w w'/\Off (dO v).ownBlock w w':=by
 obtain⟨so,sn,sc⟩:=v;obtain⟨ao,ac,hv⟩:=(Row.dG ho).len;have hv:J so sn sc=J ao l.length ac:=hv;obtain⟨rfl,rfl,rfl⟩:so=ao/\sn=l.length/\sc=ac:=by simpa using hv
 have IX:=D (Mf (so,l.length,sc) l b2 c d w (Row.dG ho) hb2);have HO:=D ho;have X2:=D hb2;have lm:=(Row.dG ho).most;unfold maxLen at lm;have BZ:=D (show w.heap.size<=w.heap.size from aK _);obtain⟨n,hn⟩:∃ n,n=l.length:=⟨_,rfl⟩;rw [<- hn] at HO lm IX ⊢;have HN:=D hn.symm;obtain⟨q,hq⟩:∃ q,fE (l.map jI) (c,d)=q:=⟨_,rfl⟩;rw [hq] at IX;have HQ:=D hq;have HB:=D hB;have LB:=D (show ∀ g,(dO (so,n,sc)).ownBlock=Z g->B<=g from fun g hg=>(HO.out.lt g hg).1);clear hb2 ho hv hn hB;by_cases hneg:q=-1
 ·subst hneg;go_enter aT,aQ;go_wp2_with fail;refine IX.out.mono ?_;rintro e w1 ⟨rfl,hb⟩;have FE:=D (show l.filter (keepD c d)=l from by
   rw [aL];intro y hy;obtain⟨j,hj⟩:=aJ.1 hy;exact decide_eq_true (pE hq j y hj))
  have BH:=D hb;clear hb hq;go_wp2;go_ret;exact⟨⟨(so,n,sc),rfl,by rw [FE.out]; exact Bk.dJ HO.out BH.out⟩,BH.out.mono HB.out,fun j hj _=>BH.out.block j hj,BH.out.size⟩
 ·obtain⟨k,rfl⟩:∃ k:Nat,q=k:=⟨q.toNat,by have:=lC (l.map jI) (c,d); omega⟩;obtain⟨g1,g2⟩:=mP hq;obtain⟨x,hx,hxk⟩:∃ x,l[k]?=Z x/\jI x=(c,d):=by
   rw [X] at g1;cases hz:l[k]? with
   | none=>rw [hz] at g1; cases g1
   | some x=>rw [hz] at g1; exact⟨x,rfl,aj g1⟩
  have ST0:=D (qR (keep:=keepD c d) hx (decide_eq_false (by simp [hxk])) (fun j y hj hy=>decide_eq_true (g2 j (jI y) hj (by rw [X,hy]; rfl))));have hkl:k<n:=by rw [<- HN.out]; exact (ay.1 hx).1
  obtain⟨g,rfl,hBg⟩:∃ g,so=Z ⟨g,0,U⟩/\B<=g:=oz HO.out (show 0<n by omega);have BG:=D hBg;have TG:=D (iO HO.out);have hcap:n<=sc:=by
   rcases gq HO.out with⟨h1,_⟩|⟨g',c',cur,h1,h2,h3,h4,h5,h6,h7⟩
   ·cases h1
   ·have e1:sc=c':=by simpa using congrArg (fun v=>match v with | Value.slice _ _ c=>c | _=>0) h1
    have:=HN.out;omega
  have hw0:IntKind.i64.wrap ((k:Int)+1)=(k:Int)+1:=au _ (by omega);have hk1:((k:Int) == -1)=false:=by rw [beq_eq_false_iff_ne]; omega
  clear hq g1 g2 hx hxk x hneg hBg LB;go_enter aT,aQ;go_wp2_with fail;refine IX.out.mono ?_;rintro e w1 ⟨rfl,hb⟩;have O1:=D (Bk.dJ HO.out hb);have B1:=D (hb.mono HB.out);have F1:=D (show Off (Z g) w w1 from ⟨fun j hj _=>hb.block j hj,hb.size⟩);clear hb IX;go_wp2;clear hw0 hk1
  go_loopw [5,6] (fun s5 s6 wr=>∃ (i j:Nat) (L:List jk),s5=K O i/\s6=K O j/\j<=n/\oC (keepD c d) l i j L/\Own ED wr B (J (Z ⟨g,0,U⟩) n sc) L/\Below B w wr/\Off (Z g) w wr) (fun _ s6 _=>n-(intOf s6).toNat)
  case atStart=>exact⟨k,k+1,l,rfl,by go_num,by omega,ST0.out,O1.out,B1.out,F1.out⟩
  case round =>
   obtain⟨i,j,L,rfl,rfl,hj,hst,how,hbe,hof⟩:=hrel;have ST:=D hst;have OW:=D how;have BE:=D hbe;have OF:=D hof;have hij:=hst.lt;have LN:=D (show L.length=n from hst.len.trans HN.out);clear hst how hbe hof O1 B1 F1 ST0;by_cases hlt:j<n
   ·obtain⟨y,hy⟩:∃ y,l[j]?=Z y:=⟨_,Y (by rw [HN.out]; exact hlt)⟩;have Ya:L[j]?=Z y:=by rw [ST.out.at,hy]
    obtain⟨p,ix,px⟩:=Qq (Row.dG OW.out) rfl LN.out Ya;obtain⟨p0,p1,p2,p3⟩:=px wr (aC _ _);obtain⟨r,hr⟩:∃ r,decide (jI y=(c,d))=r:=⟨_,rfl⟩;have HY:=D hy;have hw3:IntKind.i64.wrap ((j:Int)+1)=(j:Int)+1:=au _ (by omega);have hw5:IntKind.i64.wrap ((i:Int)+1)=(i:Int)+1:=au _ (by omega);obtain⟨z,hz⟩:∃ z,L[i]?=Z z:=⟨_,Y (by rw [LN.out]; omega)⟩;have HZ:=D hz;have Yb:=OF.out.box X2.out TG.out (by decide);have Yc:=Bn y b2 c d r hr;have KP:=D (show keepD c d y=!r from by rw [<- hr]; simp [keepD]);obtain⟨y1,y2,⟨yo,yn,yc⟩,y4⟩:=y;simp only at p0 p1 p2 p3;have NB:=D (gM wr (.cells #[K O y1,K O y2,J yo yn yc,K O y4] 74));have CL:=D (Yc _ (Yb.on NB.out));clear hy Ya px hr hz Yc Yb;go_wp2_with fail;refine CL.out.mono ?_;rintro e w2 ⟨rfl,hb⟩;have BB:=D (NB.out.trans (hb.mono NB.out.size));have Y7:=(dL wr #[K O y1,K O y2,J yo yn yc,K O y4] 74).on hb;obtain⟨q0,q1,q2,q3⟩:=Y7.zZ;have O2:=D (Bk.dJ OW.out BB.out);clear hb CL ix p0 p1 p2 p3 Y7;cases r
    ·have ix:=jV okD g i n sc (by omega);have ix:∀ w,(aO 23 (J (Z ⟨g,0,U⟩) n sc) (K O i)).run ak w=.ok (aB (Z ⟨g,i * 4,U⟩)) w:=ix;have ca:=jr okD O2.out HZ.out w2 (aC _ _);have Yd:=ca 0 _ rfl;have Ye:=ca 1 _ rfl;have Yf:=ca 2 _ rfl;have Yg:=ca 3 _ rfl;simp [Addr.add,ED] at Yd Ye Yf Yg;obtain⟨cur,hbx⟩:=jm O2.out;have f:=fun j=>hbx.fr j;have gl:=hbx.lt;have SQ:Em ED B g (J (Z ⟨g,0,U⟩) n sc) (L.set i (y1,y2,(yo,yn,yc),y4)) w2 ((((w2.setCell ⟨g,i * 4,U⟩ (K O y1)).setCell ⟨g,i * 4+1,U⟩ (K O y2)).setCell ⟨g,i * 4+2,U⟩ (J yo yn yc)).setCell ⟨g,i * 4+3,U⟩ (K O y4)):=abe (y1,y2,(yo,yn,yc),y4) O2.out (by rw [LN.out]; omega);have SQ:=D SQ;clear hbx ca;go_upto_region 10 with fail;generalize ((((w2.setCell ⟨g,i * 4,U⟩ (K O y1)).setCell ⟨g,i * 4+1,U⟩ (K O y2)).setCell ⟨g,i * 4+2,U⟩ (J yo yn yc)).setCell ⟨g,i * 4+3,U⟩ (K O y4))=w3 at *;clear f gl Yd Ye Yf Yg ix;go_wp2
     go_roundw
     case rel=>exact⟨i+1,j+1,L.set i (y1,y2,(yo,yn,yc),y4),by go_num,by go_num,by omega,ST.out.keep HY.out KP.out,SQ.out.1,SQ.out.2.2 B w BG.out (BE.out.trans (BB.out.mono (ah HB.out OF.out.2))),⟨fun q hq hne=>(SQ.out.2.1.1 q (V (V hq OF.out.2) BB.out.size) (fun e=>hne (by rw [e]))).trans ((BB.out.block q (V hq OF.out.2)).trans (OF.out.1 q hq hne)),ah OF.out.2 (ah BB.out.size SQ.out.2.1.2)⟩⟩
     case measure=>simp [intOf]; omega
    ·go_wp2
     go_roundw
     case rel=>exact⟨i,j+1,L,rfl,by go_num,by omega,ST.out.skip HY.out KP.out,O2.out,BE.out.trans (BB.out.mono (ah HB.out OF.out.2)),⟨fun q hq hne=>(BB.out.block q (V hq OF.out.2)).trans (OF.out.1 q hq hne),ah OF.out.2 BB.out.size⟩⟩
     case measure=>simp [intOf]; omega
   ·obtain rfl:n=j:=by omega
    obtain⟨W',hr,h1,h2,h3⟩:=yN okD (by decide) OW.out hij (ty:=0);have sh:=gK (E:=ED) okD g i n sc (by omega) (by omega);have sl:=jc (E:=ED) okD ⟨g,0,U⟩ i n sc (by omega);have sh:∀ w,(aD 23 (J (Z ⟨g,0,U⟩) n sc) (Z (K O i)) U U).run ak w=.ok (J (Z ⟨g,i * 4,U⟩) (n-i) (sc-i)) w:=sh;have sl:∀ w,(aD 23 (J (Z ⟨g,0,U⟩) n sc) U (Z (K O i)) U).run ak w=.ok (J (Z ⟨g,0,U⟩) i sc) w:=sl;have hr:(Builtin.clear_ #[23] 0 #[J (Z ⟨g,i * 4,U⟩) (n-i) (sc-i)]).run ak wr=.ok (.tuple #[]) W':=hr;have Q:=D (show (∃ v':Sl,aA (J (Z ⟨g,0,U⟩) i sc)=aA (dO v')/\Own ED W' B (dO v') (l.filter (keepD c d)))/\Below B w W'/\Off (dO (Z ⟨g,0,U⟩,n,sc)).ownBlock w W' from ⟨⟨(Z ⟨g,0,U⟩,i,sc),rfl,by
     have e1:l.take n=l:=aH (by rw [HN.out]; exact aK _);have e2:=ST.out.lo;rw [e1] at e2;rw [<- e2];exact h1⟩,h3 B w BG.out BE.out,⟨fun q hq hne=>(h2.1 q (V hq OF.out.2) (fun e=>hne (by rw [e]; rfl))).trans (OF.out.1 q hq hne),ah OF.out.2 h2.2⟩⟩)
    clear h1 h2 h3 hlt;go_wp2_with (first | (at_builtin; refine sI rfl _ _ 23 rfl rfl rfl hr ?_) | fail);go_ret;exact Q.out
abbrev qU (x:gW):fB:=(x.1,x.2.1)
theorem yP:∀ (l:List gW) (k:Nat) (x:gW),k<l.length->flat EN (l.set k x)=((((((((flat EN l).set (k * 7) (K O x.1)).set (k * 7+1) (K O x.2.1)).set (k * 7+2) (K O x.2.2.1)).set (k * 7+3) (K O x.2.2.2.1)).set (k * 7+4) (dO x.2.2.2.2.1)).set (k * 7+5) (K O x.2.2.2.2.2.1)).set (k * 7+6) (aM x.2.2.2.2.2.2))
 | [],k,x,h=>by simp at h
 | y::r,0,x,_=>rfl
 | y::r,k+1,x,h=>by
  have ih:=yP r k x (by simpa using h);rw [show (k+1) * 7+6=(k * 7+6)+1+1+1+1+1+1+1 by omega,show (k+1) * 7+5=(k * 7+5)+1+1+1+1+1+1+1 by omega,show (k+1) * 7+4=(k * 7+4)+1+1+1+1+1+1+1 by omega,show (k+1) * 7+3=(k * 7+3)+1+1+1+1+1+1+1 by omega,show (k+1) * 7+2=(k * 7+2)+1+1+1+1+1+1+1 by omega,show (k+1) * 7+1=(k * 7+1)+1+1+1+1+1+1+1 by omega,show (k+1) * 7=(k * 7)+1+1+1+1+1+1+1 by omega];simp only [List.set_cons_succ,flat,EN,gX,List.cons_append,List.nil_append] at ih ⊢;rw [ih]
theorem abf {w:World} {B g n cap k:Nat} {l:List gW} (x:gW) (h:Own EN w B (J (Z ⟨g,0,U⟩) n cap) l) (hk:k<l.length) :
  Em EN B g (J (Z ⟨g,0,U⟩) n cap) (l.set k x) w (((((((w.setCell ⟨g,k * 7,U⟩ (K O x.1)).setCell ⟨g,k * 7+1,U⟩ (K O x.2.1)).setCell ⟨g,k * 7+2,U⟩ (K O x.2.2.1)).setCell ⟨g,k * 7+3,U⟩ (K O x.2.2.2.1)).setCell ⟨g,k * 7+4,U⟩ (dO x.2.2.2.2.1)).setCell ⟨g,k * 7+5,U⟩ (K O x.2.2.2.2.2.1)).setCell ⟨g,k * 7+6,U⟩ (aM x.2.2.2.2.2.2)):=by
 have hln:=gH h;subst hln;have h:w.ownsRow B 66 7 (J (Z ⟨g,0,U⟩) l.length cap) l.length (flat EN l):=h;have s1:=(h.stored (k * 7) (K O x.1)).1;have s2:=(s1.stored (k * 7+1) (K O x.2.1)).1;have s3:=(s2.stored (k * 7+2) (K O x.2.2.1)).1;have s4:=(s3.stored (k * 7+3) (K O x.2.2.2.1)).1;have s5:=(s4.stored (k * 7+4) (dO x.2.2.2.2.1)).1;have s6:=(s5.stored (k * 7+5) (K O x.2.2.2.2.2.1)).1;have s7:=(s6.stored (k * 7+6) (aM x.2.2.2.2.2.2)).1;refine⟨?_,(((((((dM _ g _ _).trans (dM _ g _ _)).trans (dM _ g _ _)).trans (dM _ g _ _)).trans (dM _ g _ _)).trans (dM _ g _ _)).trans (dM _ g _ _)),fun B' W hB hb=>(((((((hb.setCell (p:=⟨g,_,U⟩) hB _).setCell (p:=⟨g,_,U⟩) hB _).setCell (p:=⟨g,_,U⟩) hB _).setCell (p:=⟨g,_,U⟩) hB _).setCell (p:=⟨g,_,U⟩) hB _).setCell (p:=⟨g,_,U⟩) hB _).setCell (p:=⟨g,_,U⟩) hB _)⟩;have e:=yP l k x hk;show World.ownsRow _ B 66 7 _ (l.set k x).length (flat EN (l.set k x));rw [e,aN];exact s7
theorem Bo (x:gW) (b2:Nat) (c d:Int) (r:Bool) (hr:decide (qU x=(c,d))=r) (w:World) (h:dI w b2 #[K O c,K O d] 31):Calls ak 99 #[nY x,aB (Z ⟨b2,0,U⟩)] w fun e w'=>e=aA (aM r)/\Below w.heap.size w w':=by
 obtain⟨y1,y2,y3,y4,⟨yo,yn,yc⟩,y6,y7⟩:=x;have n0:=gM w (.cells #[K O y1,K O y2,K O y3,K O y4,J yo yn yc,K O y6,aM y7] 66);have hx:=dL w #[K O y1,K O y2,K O y3,K O y4,J yo yn yc,K O y6,aM y7] 66;have x1:=hx.cell 1;have x0:=hx.cell 0;obtain⟨z0,z1⟩:=(h.on n0).cs2;simp only [aI,aF,aG] at x0 x1;have he:=qJ y1 y2 c d r (by
  rw [<- hr];by_cases h1:y1=c <;> by_cases h2:y2=d <;> simp [h1,h2])
 have N0:=D n0;clear n0 hx h hr;go_enter Tryz.func99,Tryz.ntmps99;go_wp2;go_ret;exact⟨rfl,N0.out⟩
theorem Mh (v:Sl) (l:List gW) (b2:Nat) (c d:Int) (w:World) (hs:Row EN w (dO v) l) (hb2:dI w b2 #[K O c,K O d] 31) :
  Calls ak 149 #[dO v,.func (.func 99) #[] #[aB (Z ⟨b2,0,U⟩)]] w fun e w'=>e=aA (K O (fE (l.map qU) (c,d)))/\Below w.heap.size w w':=by
 obtain⟨so,sn,sc⟩:=v;obtain⟨ao,ac,hv⟩:=hs.len;have hv:J so sn sc=J ao l.length ac:=hv;obtain⟨rfl,rfl,rfl⟩:so=ao/\sn=l.length/\sc=ac:=by simpa using hv
 have HS:=D hs;have X2:=D hb2;have lm:=hs.most;unfold maxLen at lm;obtain⟨n,hn⟩:∃ n,n=l.length:=⟨_,rfl⟩;rw [<- hn] at HS lm ⊢;have HN:=D hn.symm;clear hb2 hs hv hn;go_enter Tryz.func149,Tryz.ntmps149;go_wp2
 go_loopw [8] (fun i wr=>∃ k:Nat,k<=n/\i=K O k/\Below w.heap.size w wr/\∀ (j:Nat) (y:gW),j<k->l[j]?=Z y->qU y≠(c,d)) (fun i _=>n-(intOf i).toNat)
 case atStart=>exact⟨0,aS _,rfl,aC _ _,fun j y h=>by omega⟩
 case round =>
  obtain⟨k,hk,rfl,hbe,hall⟩:=hrel;have BE:=D hbe;have AL:=D hall;clear hbe hall;by_cases hlt:k<n
  ·obtain⟨y,hy⟩:∃ y,l[k]?=Z y:=⟨_,Y (by rw [HN.out]; exact hlt)⟩;obtain⟨p,ix,px⟩:=KA HS.out rfl HN.out hy;obtain⟨p0,p1,p2,p3,p4,p5,p6⟩:=px wr BE.out;obtain⟨r,hr⟩:∃ r,decide (qU y=(c,d))=r:=⟨_,rfl⟩;have CL:=D (Bo y b2 c d r hr wr (X2.out.on BE.out));have HY:=D hy;have HR:=D hr;obtain⟨y1,y2,y3,y4,⟨yo,yn,yc⟩,y6,y7⟩:=y;simp only at p0 p1 p2 p3 p4 p5 p6;have hw3:IntKind.i64.wrap ((k:Int)+1)=(k:Int)+1:=au _ (by omega);clear px hy hr;go_wp2_with fail;refine CL.out.mono ?_;rintro e w1 ⟨rfl,hb⟩;have B1:=D (BE.out.trans (hb.mono BE.out.size));clear hb CL ix p0 p1 p2 p3 p4 p5 p6;cases r
   ·go_wp2
    go_roundw
    case rel=>exact⟨k+1,by omega,by go_num,B1.out,fun j y' hj h1=>by
     rcases aP j k with h3|h3
     ·exact AL.out j y' h3 h1
     ·obtain rfl:j=k:=by omega
      have e1:=HY.out;rw [h1] at e1;rw [aj e1];exact of_decide_eq_false HR.out⟩
    case measure=>simp [intOf]; omega
   ·go_wp2;go_ret;exact⟨by rw [vB (l.map qU) k (c,d) (by rw [X,HY.out]; exact congrArg Z (of_decide_eq_true HR.out)) (fun j z hj hz=>by
     rw [X] at hz;cases hz2:l[j]? with
     | none=>rw [hz2] at hz; cases hz
     | some u=>rw [hz2] at hz; rw [<- aj hz]; exact AL.out j u hj hz2)]; rfl,B1.out⟩
  ·obtain rfl:k=n:=by omega
   go_wp2;go_ret;exact⟨by rw [qw (l.map qU) (c,d) (fun j z hz=>by
     rw [X] at hz;cases hz2:l[j]? with
     | none=>rw [hz2] at hz; cases hz
     | some u=>rw [hz2] at hz; rw [<- aj hz]; exact AL.out j u (by rw [<- HN.out]; exact (ay.1 hz2).1) hz2)]; rfl,BE.out⟩
abbrev tu (c d:Int) (x:gW):Bool:=decide (qU x≠(c,d))
theorem Mi (B:Nat) (v:Sl) (l:List gW) (b2:Nat) (c d:Int) (w:World) (ho:Own EN w B (dO v) l) (hb2:dI w b2 #[K O c,K O d] 31) (hB:B<=w.heap.size) :
  Calls ak 98 #[dO v,.func (.func 99) #[] #[aB (Z ⟨b2,0,U⟩)]] w fun e w'=>(∃ v':Sl,e=aA (dO v')/\Own EN w' B (dO v') (l.filter (tu c d)))/\Below B w w'/\Off (dO v).ownBlock w w':=by
 obtain⟨so,sn,sc⟩:=v;obtain⟨ao,ac,hv⟩:=(Row.dG ho).len;have hv:J so sn sc=J ao l.length ac:=hv;obtain⟨rfl,rfl,rfl⟩:so=ao/\sn=l.length/\sc=ac:=by simpa using hv
 have IX:=D (Mh (so,l.length,sc) l b2 c d w (Row.dG ho) hb2);have HO:=D ho;have X2:=D hb2;have lm:=(Row.dG ho).most;unfold maxLen at lm;have BZ:=D (show w.heap.size<=w.heap.size from aK _);obtain⟨n,hn⟩:∃ n,n=l.length:=⟨_,rfl⟩;rw [<- hn] at HO lm IX ⊢;have HN:=D hn.symm;obtain⟨q,hq⟩:∃ q,fE (l.map qU) (c,d)=q:=⟨_,rfl⟩;rw [hq] at IX;have HQ:=D hq;have HB:=D hB;have LB:=D (show ∀ g,(dO (so,n,sc)).ownBlock=Z g->B<=g from fun g hg=>(HO.out.lt g hg).1);clear hb2 ho hv hn hB;by_cases hneg:q=-1
 ·subst hneg;go_enter aU,aR;go_wp2_with fail;refine IX.out.mono ?_;rintro e w1 ⟨rfl,hb⟩;have FE:=D (show l.filter (tu c d)=l from by
   rw [aL];intro y hy;obtain⟨j,hj⟩:=aJ.1 hy;exact decide_eq_true (pE hq j y hj))
  have BH:=D hb;clear hb hq;go_wp2;go_ret;exact⟨⟨(so,n,sc),rfl,by rw [FE.out]; exact Bk.dJ HO.out BH.out⟩,BH.out.mono HB.out,fun j hj _=>BH.out.block j hj,BH.out.size⟩
 ·obtain⟨k,rfl⟩:∃ k:Nat,q=k:=⟨q.toNat,by have:=lC (l.map qU) (c,d); omega⟩;obtain⟨g1,g2⟩:=mP hq;obtain⟨x,hx,hxk⟩:∃ x,l[k]?=Z x/\qU x=(c,d):=by
   rw [X] at g1;cases hz:l[k]? with
   | none=>rw [hz] at g1; cases g1
   | some x=>rw [hz] at g1; exact⟨x,rfl,aj g1⟩
  have ST0:=D (qR (keep:=tu c d) hx (decide_eq_false (by simp [hxk])) (fun j y hj hy=>decide_eq_true (g2 j (qU y) hj (by rw [X,hy]; rfl))));have hkl:k<n:=by rw [<- HN.out]; exact (ay.1 hx).1
  obtain⟨g,rfl,hBg⟩:∃ g,so=Z ⟨g,0,U⟩/\B<=g:=oz HO.out (show 0<n by omega);have BG:=D hBg;have TG:=D (iO HO.out);have hcap:n<=sc:=by
   rcases gq HO.out with⟨h1,_⟩|⟨g',c',cur,h1,h2,h3,h4,h5,h6,h7⟩
   ·cases h1
   ·have e1:sc=c':=by simpa using congrArg (fun v=>match v with | Value.slice _ _ c=>c | _=>0) h1
    have:=HN.out;omega
  have hw0:IntKind.i64.wrap ((k:Int)+1)=(k:Int)+1:=au _ (by omega);have hk1:((k:Int) == -1)=false:=by rw [beq_eq_false_iff_ne]; omega
  clear hq g1 g2 hx hxk x hneg hBg LB;go_enter aU,aR;go_wp2_with fail;refine IX.out.mono ?_;rintro e w1 ⟨rfl,hb⟩;have O1:=D (Bk.dJ HO.out hb);have B1:=D (hb.mono HB.out);have F1:=D (show Off (Z g) w w1 from ⟨fun j hj _=>hb.block j hj,hb.size⟩);clear hb IX;go_wp2;clear hw0 hk1
  go_loopw [5,6] (fun s5 s6 wr=>∃ (i j:Nat) (L:List gW),s5=K O i/\s6=K O j/\j<=n/\oC (tu c d) l i j L/\Own EN wr B (J (Z ⟨g,0,U⟩) n sc) L/\Below B w wr/\Off (Z g) w wr) (fun _ s6 _=>n-(intOf s6).toNat)
  case atStart=>exact⟨k,k+1,l,rfl,by go_num,by omega,ST0.out,O1.out,B1.out,F1.out⟩
  case round =>
   obtain⟨i,j,L,rfl,rfl,hj,hst,how,hbe,hof⟩:=hrel;have ST:=D hst;have OW:=D how;have BE:=D hbe;have OF:=D hof;have hij:=hst.lt;have LN:=D (show L.length=n from hst.len.trans HN.out);clear hst how hbe hof O1 B1 F1 ST0;by_cases hlt:j<n
   ·obtain⟨y,hy⟩:∃ y,l[j]?=Z y:=⟨_,Y (by rw [HN.out]; exact hlt)⟩;have Ya:L[j]?=Z y:=by rw [ST.out.at,hy]
    obtain⟨p,ix,px⟩:=KA (Row.dG OW.out) rfl LN.out Ya;obtain⟨p0,p1,p2,p3,p4,p5,p6⟩:=px wr (aC _ _);obtain⟨r,hr⟩:∃ r,decide (qU y=(c,d))=r:=⟨_,rfl⟩;have HY:=D hy;have hw3:IntKind.i64.wrap ((j:Int)+1)=(j:Int)+1:=au _ (by omega);have hw5:IntKind.i64.wrap ((i:Int)+1)=(i:Int)+1:=au _ (by omega);obtain⟨z,hz⟩:∃ z,L[i]?=Z z:=⟨_,Y (by rw [LN.out]; omega)⟩;have HZ:=D hz;have Yb:=OF.out.box X2.out TG.out (by decide);have Yc:=Bo y b2 c d r hr;have KP:=D (show tu c d y=!r from by rw [<- hr]; simp [tu]);obtain⟨y1,y2,y3,y4,⟨yo,yn,yc⟩,y6,y7⟩:=y;simp only at p0 p1 p2 p3 p4 p5 p6;have NB:=D (gM wr (.cells #[K O y1,K O y2,K O y3,K O y4,J yo yn yc,K O y6,aM y7] 66));have CL:=D (Yc _ (Yb.on NB.out));clear hy Ya px hr hz Yc Yb;go_wp2_with fail;refine CL.out.mono ?_;rintro e w2 ⟨rfl,hb⟩;have BB:=D (NB.out.trans (hb.mono NB.out.size));have Y7:=(dL wr #[K O y1,K O y2,K O y3,K O y4,J yo yn yc,K O y6,aM y7] 66).on hb;obtain⟨q0,q1,q2,q3,q4,q5,q6⟩:=Y7.mE;have O2:=D (Bk.dJ OW.out BB.out);clear hb CL ix p0 p1 p2 p3 p4 p5 p6 Y7;cases r
    ·have ix:=jV nH g i n sc (by omega);have ix:∀ w,(aO 25 (J (Z ⟨g,0,U⟩) n sc) (K O i)).run ak w=.ok (aB (Z ⟨g,i * 7,U⟩)) w:=ix;have ca:=jr nH O2.out HZ.out w2 (aC _ _);have Yd:=ca 0 _ rfl;have Ye:=ca 1 _ rfl;have Yf:=ca 2 _ rfl;have Yg:=ca 3 _ rfl;have ce4:=ca 4 _ rfl;have ce5:=ca 5 _ rfl;have ce6:=ca 6 _ rfl;simp [Addr.add,EN] at Yd Ye Yf Yg ce4 ce5 ce6;obtain⟨cur,hbx⟩:=jm O2.out;have f:=fun j=>hbx.fr j;have gl:=hbx.lt;have SQ:Em EN B g (J (Z ⟨g,0,U⟩) n sc) (L.set i (y1,y2,y3,y4,(yo,yn,yc),y6,y7)) w2 (((((((w2.setCell ⟨g,i * 7,U⟩ (K O y1)).setCell ⟨g,i * 7+1,U⟩ (K O y2)).setCell ⟨g,i * 7+2,U⟩ (K O y3)).setCell ⟨g,i * 7+3,U⟩ (K O y4)).setCell ⟨g,i * 7+4,U⟩ (J yo yn yc)).setCell ⟨g,i * 7+5,U⟩ (K O y6)).setCell ⟨g,i * 7+6,U⟩ (aM y7)):=abf (y1,y2,y3,y4,(yo,yn,yc),y6,y7) O2.out (by rw [LN.out]; omega);have SQ:=D SQ;clear hbx ca;go_upto_region 10 with fail;generalize (((((((w2.setCell ⟨g,i * 7,U⟩ (K O y1)).setCell ⟨g,i * 7+1,U⟩ (K O y2)).setCell ⟨g,i * 7+2,U⟩ (K O y3)).setCell ⟨g,i * 7+3,U⟩ (K O y4)).setCell ⟨g,i * 7+4,U⟩ (J yo yn yc)).setCell ⟨g,i * 7+5,U⟩ (K O y6)).setCell ⟨g,i * 7+6,U⟩ (aM y7))=w3 at *;clear f gl Yd Ye Yf Yg ce4 ce5 ce6 ix;go_wp2
     go_roundw
     case rel=>exact⟨i+1,j+1,L.set i (y1,y2,y3,y4,(yo,yn,yc),y6,y7),by go_num,by go_num,by omega,ST.out.keep HY.out KP.out,SQ.out.1,SQ.out.2.2 B w BG.out (BE.out.trans (BB.out.mono (ah HB.out OF.out.2))),⟨fun q hq hne=>(SQ.out.2.1.1 q (V (V hq OF.out.2) BB.out.size) (fun e=>hne (by rw [e]))).trans ((BB.out.block q (V hq OF.out.2)).trans (OF.out.1 q hq hne)),ah OF.out.2 (ah BB.out.size SQ.out.2.1.2)⟩⟩
     case measure=>simp [intOf]; omega
    ·go_wp2
     go_roundw
     case rel=>exact⟨i,j+1,L,rfl,by go_num,by omega,ST.out.skip HY.out KP.out,O2.out,BE.out.trans (BB.out.mono (ah HB.out OF.out.2)),⟨fun q hq hne=>(BB.out.block q (V hq OF.out.2)).trans (OF.out.1 q hq hne),ah OF.out.2 BB.out.size⟩⟩
     case measure=>simp [intOf]; omega
   ·obtain rfl:n=j:=by omega
    obtain⟨W',hr,h1,h2,h3⟩:=yN nH (by decide) OW.out hij (ty:=0);have sh:=gK (E:=EN) nH g i n sc (by omega) (by omega);have sl:=jc (E:=EN) nH ⟨g,0,U⟩ i n sc (by omega);have sh:∀ w,(aD 25 (J (Z ⟨g,0,U⟩) n sc) (Z (K O i)) U U).run ak w=.ok (J (Z ⟨g,i * 7,U⟩) (n-i) (sc-i)) w:=sh;have sl:∀ w,(aD 25 (J (Z ⟨g,0,U⟩) n sc) U (Z (K O i)) U).run ak w=.ok (J (Z ⟨g,0,U⟩) i sc) w:=sl;have hr:(Builtin.clear_ #[25] 0 #[J (Z ⟨g,i * 7,U⟩) (n-i) (sc-i)]).run ak wr=.ok (.tuple #[]) W':=hr;have Q:=D (show (∃ v':Sl,aA (J (Z ⟨g,0,U⟩) i sc)=aA (dO v')/\Own EN W' B (dO v') (l.filter (tu c d)))/\Below B w W'/\Off (dO (Z ⟨g,0,U⟩,n,sc)).ownBlock w W' from ⟨⟨(Z ⟨g,0,U⟩,i,sc),rfl,by
     have e1:l.take n=l:=aH (by rw [HN.out]; exact aK _);have e2:=ST.out.lo;rw [e1] at e2;rw [<- e2];exact h1⟩,h3 B w BG.out BE.out,⟨fun q hq hne=>(h2.1 q (V hq OF.out.2) (fun e=>hne (by rw [e]; rfl))).trans (OF.out.1 q hq hne),ah OF.out.2 h2.2⟩⟩)
    clear h1 h2 h3 hlt;go_wp2_with (first | (at_builtin; refine sI rfl _ _ 25 rfl rfl rfl hr ?_) | fail);go_ret;exact Q.out
end Go.Proofs.YtmklifheakemeaaGreat.Av
