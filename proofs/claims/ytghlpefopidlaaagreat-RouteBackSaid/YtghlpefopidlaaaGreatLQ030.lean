/-
  What a round of Adve. Conditions as told.
-/
import Derived.Test.YtghlpefopidlaaaGreatLQ027
import Derived.Test.YtghlpefopidlaaaGreatLQ029
import Derived.Test.YtghlpefopidlaaaGreatLQ028
set_option maxRecDepth 100000
set_option maxHeartbeats 64000000
open _root_.Bool renaming true->aD,false->aH
open _root_.Go renaming World->aj,Value->au,Calls->aK
open Go.IntKind renaming i64->U
open Go.Lib renaming hid->J
open Go.Obj renaming cells->ah
open Go.Region renaming binds->ay
open Go.RowKit.Below renaming refl->aA,heap_setCell->aB
open Go.Value renaming slice->D,int->O,agg->aJ
open _root_.List renaming getElem?_eq_getElem->Z,length_take->aG
open _root_.Nat renaming le_trans->Y,le_refl->ak,lt_of_lt_of_le->aF,zero_le->aI
open _root_.Option renaming none->X,some->aC
namespace Go.Proofs.YtghlpefopidlaaaGreat
namespace Av
open Go.RowKit Go.Sort Rw YtghlpefopidlaaaGreat.Nm Pr Bk
theorem sF {α:Type} (l:List α) (k:Nat) (x:α):(fM l k x).length=l.length+1:=by
 unfold fM;simp only [List.length_append,List.length_cons,List.length_nil,aG,List.length_drop];omega
theorem Hr (b:Br):Di b b=aD:=(Dj b b).2 rfl
end Av
namespace Bk
open Go.RowKit Go.Sort Rw YtghlpefopidlaaaGreat.Nm Pr
theorem Dk {W W':aj} {k:Nat} {me:Int} {s1 s2 s3 s4 s5:Sl} {l:List mX} {m:List Ou} (h:eY (uI W) l m) (hb:dK W k (ko me s1 s2 s3 s4 s5) 30) (hk:∀ j,j<W.heap.size->j≠k->W'.heap[j]?=W.heap[j]?):eY (uI W') l m :=
 h.mono fun _ _ hx=>⟨hx.1,hx.2.1,hx.2.2.1,hx.2.2.2.1,jv wF hx.2.2.2.2.1 hk (tF hb (tH me s1 s2 s3 s4 s5)),hx.2.2.2.2.2⟩
def keepW (x:Id) (o:ny):Bool:=decide ((o.1,o.2.1)≠x)
theorem Li (b:Br) (nv av sv ev ov:Sl) (x:Id) (w:aj) (h:jq w b nv av sv ev ov) (l2:b.dO.length<=900) (l3:b.ent.length<=900) (l4:b.own.length<=900) (hok:∀ e∈b.ent,dR e.p) (hkn:∀ e∈b.ent,e.tree∈b.dO.map Ad.id) :
  aK Tryz.prog 18 #[mG b.me nv av sv ev ov,nC x] w fun e w'=>(∃ ev' Uk lo:Sl,e=.returned (.tuple #[mG b.me nv av sv ev' Uk,dX lo])/\jq w' (fT b x).1 nv av sv ev' Uk/\kG w' lo (fT b x).2)/\Below w.heap.size w w':=by
 obtain⟨no,nn,nc⟩:=nv;obtain⟨ao,an,ac⟩:=av;obtain⟨so,sn,sc⟩:=sv;obtain⟨eo,en,ec⟩:=ev;obtain⟨oo,eG,oc⟩:=ov;obtain⟨c,d⟩:=x;obtain⟨ws,hw1,hw2⟩:=h.own;obtain⟨q1,q2,hq⟩:=hw1.len;obtain⟨rfl,rfl,rfl⟩:oo=q1/\eG=ws.length/\oc=q2:=by
  have:D oo eG oc=D q1 ws.length q2:=hq;simpa using this
 have HH:=J h;have L2:=J l2;have L3:=J l3;have WL:=J (show ws.length<=900 from by rw [hw2.len]; exact l4);have HW2:=J hw2;have OK:=J hok;have KN:=J hkn;obtain⟨eG,hon⟩:∃ n,n=ws.length:=⟨_,rfl⟩;simp only [<- hon] at HH hw1 ⊢;have N5:=J hon;obtain⟨h0,h1,h2,h3⟩:=gT w #[O U b.me,D no nn nc,D ao an ac,D so sn sc,D eo en ec,D oo eG oc] #[O U c,O U d] #[O U 0,D X 0 0,D X 0 0,D X 0 0,D X 0 0,D X 0 0] 30 23 30;obtain⟨me,hme⟩:∃ me,me=b.me:=⟨_,rfl⟩;simp only [<- hme] at h0 h1 h2 h3 ⊢;have gG:=J (h0);have ah8:=J (h1);have acL:=J (h2);have ah9:=J (h3);have O8:=J (hw1.on h0);have ME:=J hme;clear h0 h1 h2 h3 h l2 l3 l4 hme hok hkn hw1 hw2 hq hon;show aK Tryz.prog 18 #[aJ #[O U me,D no nn nc,D ao an ac,D so sn sc,D eo en ec,D oo eG oc],aJ #[O U c,O U d]] w _;go_enter Tryz.func18,Tryz.ntmps18;go_upto_region 1 with fail;generalize (((w.alloc (ah #[O U me,D no nn nc,D ao an ac,D so sn sc,D eo en ec,D oo eG oc] 30)).alloc (ah #[O U c,O U d] 23)).alloc (ah #[O U 0,D X 0 0,D X 0 0,D X 0 0,D X 0 0,D X 0 0] 30))=W at *;have W4:=J (show w.heap.size+3<=W.heap.size from by have:=ah9.out.lt; omega);obtain⟨x0,x1,x2,x3,x4,x5⟩:=ah8.out.fD;go_wp2_with fail;clear x0 x1 x2 x3 x4 x5
 go_loopw [6,17] (fun v i wr=>∃ q:Nat,q<=eG/\i=O U q/\Below W.heap.size W wr/\nM wr W.heap.size v ((ws.take q).filter (keepW (c,d)))) (fun _ i _=>eG-(intOf i).toNat)
 case atStart=>exact⟨0,aI _,rfl,aA _ _,iO _ _⟩
 case round =>
  obtain⟨q,hq,rfl,hbe,hown⟩:=hrel;have BE:=J hbe;have OE:=J hown;clear hbe hown;have l9:eG<=900:=by rw [N5.out]; exact WL.out
  by_cases hlt:q<eG
  ·have hlt':(q:Int)<(eG:Int):=by omega
   have hw:IntKind.i64.wrap ((q:Int)+1)=(q:Int)+1:=IntWalk.i64_in _ (by omega);obtain⟨z,hz⟩:∃ z,ws[q]?=aC z:=⟨_,Z (by rw [<- N5.out]; exact hlt)⟩;obtain⟨p,ix,px⟩:=elW O8.out rfl N5.out.symm hz;obtain⟨p0,p1,p2⟩:=px wr BE.out;have FS:=J (Cg ws q z (keepW (c,d)) hz);obtain⟨y1,y2,⟨yo,yn,yc⟩⟩:=z;simp only at p0 p1 p2;clear px hz;go_upto_region 5 with fail;clear p0 p1 p2 ix;have NN:=gN wr (ah #[O U y1,O U y2,D yo yn yc] 88);have XE:=J (dQ wr #[O U y1,O U y2,D yo yn yc] 88);have Ym:=J (BE.out.trans (NN.mono BE.out.size));have TM:=J (dI OE.out NN);clear BE OE NN;generalize wr.alloc (ah #[O U y1,O U y2,D yo yn yc] 88)=wa at *;obtain⟨e0_,e1_,e2_⟩:=XE.out.cs3;have y0:=(acL.out.on Ym.out).cell 0;have y1_:=(acL.out.on Ym.out).cell 1;simp only [List.getElem?_toArray,List.getElem?_cons_zero,List.getElem?_cons_succ] at y0 y1_;obtain⟨r,hr⟩:∃ r,(!(y1 == c && y2 == d))=r:=⟨_,rfl⟩;have he:=WT y1 y2 c d r hr;have KW:=J (show keepW (c,d) (y1,y2,(yo,yn,yc))=r by
    rw [<- hr];unfold keepW;by_cases h1:y1=c <;> by_cases h2:y2=d <;> simp [h1,h2])
   clear hr;cases r
   ·go_wp2_with fail
    go_roundw
    case rel=>exact⟨q+1,hlt,by go_num,Ym.out,by rw [FS.out,KW.out]; simpa using TM.out⟩
    case measure=>simp [intOf]; omega
   ·have hl:=jC okW wa [((y1,y2,(yo,yn,yc)):ny)] 1 rfl (by simp) #[O U y1,O U y2,D yo yn yc] (by rfl);have NB:=gN wa (ah #[O U y1,O U y2,D yo yn yc] 88);obtain⟨v',x5,q2,o2,g2⟩:=gZ okW W.heap.size (dI TM.out NB) (Row.dJ hl) (by have h1:=List.length_filter_le (keepW (c,d)) (ws.take q); rw [aG] at h1; omega) (by simp) (Y Ym.out.size NB.size) 28;have q2:(Builtin.append_ #[28,28] 28 #[u6,D (aC ⟨wa.heap.size,0,X⟩) 1 1]).run Tryz.prog (wa.alloc (ah #[O U y1,O U y2,D yo yn yc] 88))=.ok v' x5:=q2;have BX:=J ((Ym.out.trans (NB.mono Ym.out.size)).grown g2 (Y Ym.out.size NB.size) (fun j hj=>((dI TM.out NB).lt j hj).1));have O2:=J o2;clear hl NB o2 g2;go_wp2_with (first | (at_builtin; refine wpList_append_run rfl _ _ 28 rfl rfl rfl q2 ?_) | fail)
    go_roundw
    case rel=>exact⟨q+1,hlt,by go_num,BX.out,by rw [FS.out,KW.out]; simpa using O2.out⟩
    case measure=>simp [intOf]; omega
  ·obtain rfl:eG=q:=by omega
   have et:ws.take eG=ws:=List.take_of_length_le (by have:=N5.out; omega);rw [et] at OE;clear et;have FI:=J (show eY (xS w) (ws.filter (keepW (c,d))) (lM b (c,d)) from HW2.out.fil _ _ fun a b h=>by unfold keepW; rw [h.1]);generalize ws.filter (keepW (c,d))=ls at *;obtain⟨la,lc,hlv⟩:=(Row.dJ OE.out).len;obtain⟨ln,hln⟩:∃ n,n=ls.length:=⟨_,rfl⟩;rw [<- hln] at hlv;subst hlv;have LN:=J hln;clear hln;have LE:=J (show (lM b (c,d)).length=ln from by rw [LN.out,FI.out.len]);have LO:=J (show b.own.length=eG from by rw [<- HW2.out.len,N5.out]);have ji:=J (gG.out.trans (BE.out.mono gG.out.size));have Yy:=J (ah8.out.on BE.out);have xE:=J (acL.out.on BE.out);have pY:=J (ah9.out.on BE.out);have Jo:=J (O8.out.on BE.out);clear gG ah8 acL ah9 O8;obtain⟨x0,x1,x2,x3,x4,x5⟩:=Yy.out.fD;by_cases hll:ln=eG
   ·have hq1:((ln:Int) == (eG:Int))=aD:=by simp [hll]
    have HI:=J (HH.out.on ji.out);obtain⟨r0,r1,r2,r3,r4,r5⟩:=pY.out.fD;obtain⟨zW,zX,zY,zZ,z8,Aa⟩:=pY.out.kK;have zz:=pY.out.lt;have GG:=J (dL pY.out (O U me) (D no nn nc) (D ao an ac) (D so sn sc) (D eo en ec) (D oo eG oc));have BL:=J (dH (b:=w.heap.size+1+1) ji.out (by omega) (O U me) (D no nn nc) (D ao an ac) (D so sn sc) (D eo en ec) (D oo eG oc));have HK:=J (fun j (_:j<wr.heap.size) (hj:j≠w.heap.size+1+1)=>dN wr (w.heap.size+1+1) (O U me) (D no nn nc) (D ao an ac) (D so sn sc) (D eo en ec) (D oo eG oc) j hj);have HC:=J (fK (s1:=(X,0,0)) (s2:=(X,0,0)) (s3:=(X,0,0)) (s4:=(X,0,0)) (s5:=(X,0,0)) HI.out pY.out HK.out (HH.out.near.on BL.out));go_wp2_with fail;obtain⟨T,a0,a3,a4,a5,a6⟩:=GG.out.fD;refine bodyPost_ret (v:=.tuple #[aJ #[O U me,D no nn nc,D ao an ac,D so sn sc,D eo en ec,D oo eG oc],D X 0 0]) (by simp [results,Tryz.results18,go_sem,T,a0,a3,a4,a5,a6]) rfl ?_;have hd:fT b (c,d)=(b,[]):=by unfold fT; rw [if_pos (by rw [LE.out,LO.out]; exact hll)]
    rw [hd];exact⟨⟨(eo,en,ec),(oo,eG,oc),(X,0,0),rfl,HC.out,sw _⟩,BL.out⟩
   ·have hq1:((ln:Int) == (eG:Int))=aH:=by simp; omega
    have DB:=J (show fT b (c,d)=gX b (c,d) b.dO.length from by unfold fT; rw [if_neg (by rw [LE.out,LO.out]; exact hll)]);have f5:=Yy.out.fr 5;have zz:=Yy.out.lt;go_upto_region 11 with fail;clear x0 x1 x2 x3 x4 x5;have B2:=J (ji.out.setCell (p:=⟨w.heap.size,5,X⟩) (ak _) (D la ln lc));have X2b:=eu (k:=5) Yy.out (D la ln lc);simp only [List.setIfInBounds_toArray,List.set_cons_zero,List.set_cons_succ] at X2b;have X3b:dK _ _ _ _:=(aB wr ⟨w.heap.size,5,X⟩ (D la ln lc) _ (show w.heap.size+1≠w.heap.size by omega)).trans xE.out;have X4b:dK _ _ _ _:=(aB wr ⟨w.heap.size,5,X⟩ (D la ln lc) _ (show w.heap.size+1+1≠w.heap.size by omega)).trans pY.out;have OL:=J (eZ OE.out w.heap.size 5 (D la ln lc) (by have:=W4.out; omega));have BS:=J (show jq _ { b with own:=lM b (c,d) } (no,nn,nc) (ao,an,ac) (so,sn,sc) (eo,en,ec) (la,ln,lc) from ⟨HH.out.near.on B2.out,(HH.out.on B2.out).dO,(HH.out.on B2.out).seen,(HH.out.on B2.out).ent,⟨ls,Row.dJ OL.out,FI.out.mono fun _ _ h=>h.on B2.out⟩⟩);clear zz f5 OL OE BE ji Yy xE pY Jo;generalize wr.setCell ⟨w.heap.size,5,X⟩ (D la ln lc)=w2 at *;have lU:=J (B2.out);have UF:=J (X2b);have qQ:=J (X3b);have ru:=J (X4b);clear B2 X2b X3b X4b;obtain⟨ad0,ha1,ha2⟩:=BS.out.dO;obtain⟨q1,q2,hqv⟩:=ha1.len;obtain rfl:an=b.dO.length:=by have h1:(D ao an ac)=D q1 ad0.length q2:=hqv; have h2:an=ad0.length:=(by simpa using congrArg (fun v=>match v with|Value.slice _ n _=>n|_=>0) h1); rw [h2,ha2.len]
    clear hqv ha1 ha2;obtain⟨an,han⟩:∃ n,n=b.dO.length:=⟨_,rfl⟩;have AN:=J (show b.dO.length<=900 from L2.out);obtain⟨x0,x1,x2,x3,x4,x5⟩:=UF.out.fD;go_wp2_with fail;clear x0 x1 x2 x3 x4 x5
    go_loopw [9,42] (fun v i wr=>∃ (k:Nat) (ea:Option Addr) (jd je:Nat) (ta:Option Addr) (tn tc:Nat),k<=b.dO.length/\i=O U k/\v=D ta tn tc/\Below w.heap.size w wr/\dK wr w.heap.size #[O U me,D no nn nc,D ao b.dO.length ac,D so sn sc,D ea jd je,D la ln lc] 30/\dK wr (w.heap.size+1) #[O U c,O U d] 23/\dK wr (w.heap.size+1+1) #[O U 0,D X 0 0,D X 0 0,D X 0 0,D X 0 0,D X 0 0] 30/\jq wr (gX b (c,d) k).1 (no,nn,nc) (ao,b.dO.length,ac) (so,sn,sc) (ea,jd,je) (la,ln,lc)/\kG wr (ta,tn,tc) (gX b (c,d) k).2) (fun _ i _=>b.dO.length-(intOf i).toNat)
    case atStart=>exact⟨0,eo,en,ec,X,0,0,aI _,rfl,rfl,lU.out,UF.out,qQ.out,ru.out,BS.out,sw _⟩
    case round =>
     clear BS lU UF qQ ru;obtain⟨k,ea,jd,je,ta,tn,tc,hk,rfl,rfl,hgb,hx2,hx3,hx4,hbr,hou⟩:=hrel;have QU:=J (hgb);have Yz:=J (hx2);have ad2:=J (hx3);have Ac:=J (hx4);have QV:=J (hbr);have YA:=J (hou);clear hgb hx2 hx3 hx4 hbr hou;have UK:=J (qy b (c,d) k hk);have l9:=AN.out;by_cases hlt:k<b.dO.length
     ·have hlt':(k:Int)<(b.dO.length:Int):=by omega
      have hw:IntKind.i64.wrap ((k:Int)+1)=(k:Int)+1:=IntWalk.i64_in _ (by omega);obtain⟨a,hak⟩:∃ a,b.dO[k]?=aC a:=⟨_,Z hlt⟩;have US:=J (lg b (c,d) hak);have PK:=J (qK b (c,d) (fun e=>dR e.p) (fun _ h=>h) OK.out k hk);have TKN:=J (qK b (c,d) (fun e=>e.tree∈b.dO.map Ad.id) (fun _ h=>h) KN.out k hk);obtain⟨ad,AO,yE⟩:=QV.out.dO;rw [UK.out.1.dO] at yE;obtain⟨z,hz1,hz2⟩:=yE.at k a hak;obtain⟨p,ix,px⟩:=NK AO rfl (by rw [yE.len]) hz1;obtain⟨p0,p1,p2,p3⟩:=px wr (aA _ _);obtain⟨z1,z2,⟨z3,z4,z5⟩,z6⟩:=z;simp only at p0 p1 p2 p3;have ZI:=J (show a.id=(z1,z2) from hz2.1.symm);clear px hz1 hz2 AO yE hak;go_upto_region 15 with fail;clear p0 p1 p2 p3 ix;have NN:=gN wr (ah #[O U z1,O U z2,D z3 z4 z5,O U z6] 36);have YC:=J (QU.out.trans (NN.mono QU.out.size));have YD:=J (Yz.out.on NN);have YG:=J (ad2.out.on NN);have ad3:=J (Ac.out.on NN);have YH:=J (QV.out.on NN);have ad4:=J (YA.out.on NN);clear QU Yz ad2 Ac QV YA;clear NN;have O9:=J (dQ wr #[O U z1,O U z2,D z3 z4 z5,O U z6] 36);generalize wr.alloc (ah #[O U z1,O U z2,D z3 z4 z5,O U z6] 36)=wa at *;have DP:=J (Hl (gX b (c,d) k).1 (no,nn,nc) (ao,b.dO.length,ac) (so,sn,sc) (ea,jd,je) (la,ln,lc) (z1,z2) (c,d) (-1) wa YH.out (by rw [UK.out.1.dO]; exact AN.out) (Y UK.out.1.len L3.out) PK.out (by rw [UK.out.1.dO]; exact TKN.out));rw [UK.out.1.me,<- ME.out] at DP;obtain⟨x0,x1,x2,x3,x4,x5⟩:=YD.out.fD;obtain⟨y0,y1⟩:=YG.out.cs2;obtain⟨zc0,zc1,zc2,zc3⟩:=O9.out.Bt;rw [ZI.out] at US;have UK2:=J (qy b (c,d) (k+1) hlt);rw [US.out] at UK2;go_wp2_with fail;refine DP.out.mono ?_;rintro e1 w1 ⟨⟨⟨pJ,sW,sZ⟩,⟨ta2,tn2,tc2⟩,rfl,hbr,hou⟩,hb⟩;clear DP;clear x0 x1 x2 x3 x4 x5 y0 y1 zc0 zc1 zc2 zc3;have YI:=J (YC.out.trans (hb.mono YC.out.size));have ad5:=J (YD.out.on hb);have ad6:=J (YG.out.on hb);have ad7:=J (ad3.out.on hb);have akc:=J (YH.out.on hb);have ad8:=J (ad4.out.on hb);have aia:=J (O9.out.on hb);clear YC YD YG ad3 YH ad4 O9;have BR2:=J hbr;have OU2:=J hou;clear hb hbr hou akc aia;go_upto_region 16 with fail;have BR3:=J (BR2.out.on (gN w1 (ah #[O U me,D no nn nc,D ao b.dO.length ac,D so sn sc,D pJ sW sZ,D la ln lc] 30)));have OU3:=J (OU2.out.on (gN w1 (ah #[O U me,D no nn nc,D ao b.dO.length ac,D so sn sc,D pJ sW sZ,D la ln lc] 30)));clear BR2 OU2;have NN:=gN w1 (ah #[O U me,D no nn nc,D ao b.dO.length ac,D so sn sc,D pJ sW sZ,D la ln lc] 30);have akd:=J (YI.out.trans (NN.mono YI.out.size));have QW:=J (ad5.out.on NN);have ad9:=J (ad6.out.on NN);have aea:=J (ad7.out.on NN);have ake:=J (ad8.out.on NN);clear YI ad5 ad6 ad7 ad8;clear NN;have aib:=J (dQ w1 #[O U me,D no nn nc,D ao b.dO.length ac,D so sn sc,D pJ sW sZ,D la ln lc] 30);generalize w1.alloc (ah #[O U me,D no nn nc,D ao b.dO.length ac,D so sn sc,D pJ sW sZ,D la ln lc] 30)=wb at *;obtain⟨lo,hlo1,hlo2⟩:=ake.out;obtain⟨ls2,akf,aic⟩:=OU3.out;have LL:=UK.out.2;have LD:=Ho (gX b (c,d) k).1 (z1,z2) (c,d) (-1);have LU:=UK.out.1.len;have l3:=L3.out;have LM:k * (b.ent.length+1)<=900 * 901:=Nat.mul_le_mul (by omega) (by omega);refine aj4 _ wb w.heap.size w1.heap.size me no ao so pJ la nn nc b.dO.length ac sn sc sW sZ ln lc ta ta2 tn tc tn2 tc2 lo ls2 _ _ _ _ _ _ _ _ _ _ _ _ _ _ _ _ _ _ _ _ _ _ _ _ _ _ _ _ _ _ _ _ _ _ _ _ _ _ _ _ _ _ _ _ _ _ _ _ _ _ _ _ _ _ _ _ _ _ _ _ _ _ _ _ _ QW.out aib.out hlo1 akf (by rw [hlo2.len]; omega) (by rw [aic.len]; omega) ?_;intro x w9 v54 v55 v56 v57 v58 v59 hbx hown hblk hbl;have GX:=J (akd.out.trans (hbl _ (ak _)));have Y2:=J hbx;have Y3:=J (show dK _ _ _ _ from (hblk _ ad9.out.lt (by omega)).trans ad9.out);have Y4:=J (show dK _ _ _ _ from (hblk _ aea.out.lt (by omega)).trans aea.out);have BRX:=J (fK (s1:=(no,nn,nc)) (s2:=(ao,b.dO.length,ac)) (s3:=(so,sn,sc)) (s4:=(ea,jd,je)) (s5:=(la,ln,lc)) BR3.out QW.out hblk (by rw [show (jI (gX b (c,d) k).1 (z1,z2) (c,d) (-1)).1.near=b.near from UK2.out.1.near]; exact HH.out.near.on GX.out));have OA:=J ((Dk (s1:=(no,nn,nc)) (s2:=(ao,b.dO.length,ac)) (s3:=(so,sn,sc)) (s4:=(ea,jd,je)) (s5:=(la,ln,lc)) hlo2 QW.out hblk).append (Dk (s1:=(no,nn,nc)) (s2:=(ao,b.dO.length,ac)) (s3:=(so,sn,sc)) (s4:=(ea,jd,je)) (s5:=(la,ln,lc)) aic QW.out hblk));obtain⟨ra,rc,hrv⟩:=(Row.dJ hown).len;have RR:=J (Row.dJ hown);rw [hrv] at RR;rw [hrv];clear hbx hown hblk hbl hlo1 hlo2 akf aic hrv BR3 OU3;go_wp2_with fail
      go_roundw
      case rel=>exact⟨k+1,pJ,sW,sZ,ra,_,rc,hlt,by go_num,rfl,GX.out,Y2.out,Y3.out,Y4.out,by rw [US.out]; exact BRX.out,by rw [US.out]; exact⟨_,RR.out,OA.out⟩⟩
      case measure=>simp [intOf]; omega
     ·obtain rfl:k=b.dO.length:=by omega
      obtain⟨x0,x1,x2,x3,x4,x5⟩:=Yz.out.fD;obtain⟨r0,r1,r2,r3,r4,r5⟩:=Ac.out.fD;obtain⟨zW,zX,zY,zZ,z8,Aa⟩:=Ac.out.kK;have zz:=Ac.out.lt;have GG:=J (dL Ac.out (O U me) (D no nn nc) (D ao b.dO.length ac) (D so sn sc) (D ea jd je) (D la ln lc));have BL:=J (dH (b:=w.heap.size+1+1) QU.out (by omega) (O U me) (D no nn nc) (D ao b.dO.length ac) (D so sn sc) (D ea jd je) (D la ln lc));have HK:=J (fun j (_:j<wr.heap.size) (hj:j≠w.heap.size+1+1)=>dN wr (w.heap.size+1+1) (O U me) (D no nn nc) (D ao b.dO.length ac) (D so sn sc) (D ea jd je) (D la ln lc) j hj);have HC:=J (fK (s1:=(X,0,0)) (s2:=(X,0,0)) (s3:=(X,0,0)) (s4:=(X,0,0)) (s5:=(X,0,0)) QV.out Ac.out HK.out (by rw [UK.out.1.near]; exact HH.out.near.on BL.out));have HO:=J (iT (s1:=(X,0,0)) (s2:=(X,0,0)) (s3:=(X,0,0)) (s4:=(X,0,0)) (s5:=(X,0,0)) YA.out Ac.out HK.out);go_wp2_with fail;obtain⟨T,a0,a3,a4,a5,a6⟩:=GG.out.fD;refine bodyPost_ret (v:=.tuple #[aJ #[O U me,D no nn nc,D ao b.dO.length ac,D so sn sc,D ea jd je,D la ln lc],D ta tn tc]) (by simp [results,Tryz.results18,go_sem,T,a0,a3,a4,a5,a6]) rfl ?_;rw [DB.out];exact⟨⟨(ea,jd,je),(la,ln,lc),(ta,tn,tc),rfl,HC.out,HO.out⟩,BL.out⟩
end Bk
namespace Av
open Go.RowKit Go.Sort Rw YtghlpefopidlaaaGreat.Nm Pr Bk
end Av
namespace Av
open Go.RowKit Go.Sort Rw YtghlpefopidlaaaGreat.Nm Pr Bk
theorem Jp {α β:Type} {E:Ek α} {F:Ek β} {W W':aj} {B B':Nat} {v u:au} {l:List β} {m:List α} (ho:Own F W B v l) (gr:W.grownBy W' v.ownBlock) (h:Own E W B' u m) (hne:(E.t == F.t)=aH):Own E W' B' u m:=by
 rcases gB ho with⟨h1,_⟩|⟨g,c,cur,h1,_,h2,_⟩
 ·rw [h1] at gr;exact Bk.dI h ((aA _ _).grown gr (ak _) (fun j hj=>by cases hj))
 ·rw [h1] at gr;exact (zH (b:=g) gr).own h h2 hne
theorem lQ {β:Type} {F:Ek β} {W W':aj} {B k:Nat} {v:au} {l:List β} {cs:Array au} {t:TypeId} (ho:Own F W B v l) (gr:W.grownBy W' v.ownBlock) (h:dK W k cs t) (hne:(t == F.t)=aH):dK W' k cs t:=by
 rcases gB ho with⟨h1,_⟩|⟨g,c,cur,h1,_,h2,_⟩
 ·rw [h1] at gr;exact h.on ((aA _ _).grown gr (ak _) (fun j hj=>by cases hj))
 ·rw [h1] at gr;exact (zH (b:=g) gr).box h (rM h h2 hne)
end Av
namespace Bk
open Go.RowKit Go.Sort Rw YtghlpefopidlaaaGreat.Nm Pr
def Dl (b:Br) (f:Int) (x:Id):List mX:=if (iQ b x f).2=aD then nH b.near f (fun n=>(n,2,x.1,x.2,0,0,(X,0,0),(X,0,0))) else []
theorem lV (b:Br) (x:Id) (f:Int):(iQ b x f).1.near=b.near/\(iQ b x f).1.me=b.me:=by
 unfold iQ
 split
 ·exact⟨rfl,rfl⟩
 ·split
  ·exact⟨rfl,rfl⟩
  ·split <;> exact⟨rfl,rfl⟩
theorem Pb (b:Br) (nv av sv ev ov:Sl) (x:Id) (f:Int) (w:aj) (h:jq w b nv av sv ev ov) (l1:b.near.length<=900) (l2:b.dO.length<=900) (l3:b.ent.length<=900) :
  aK Tryz.prog 120 #[mG b.me nv av sv ev ov,O U f,nC x] w fun e w'=>(∃ Fa ev' sl:Sl,e=.returned (.tuple #[mG b.me nv Fa sv ev' ov,dX sl])/\jq w' (iQ b x f).1 nv Fa sv ev' ov/\TP w' (dX sl) (Dl b f x))/\Below w.heap.size w w':=by
 obtain⟨no,nn,nc⟩:=nv;obtain⟨ao,an,ac⟩:=av;obtain⟨so,sn,sc⟩:=sv;obtain⟨eo,en,ec⟩:=ev;obtain⟨oo,eG,oc⟩:=ov;obtain⟨c,d⟩:=x;have FG:=J (fun W hb'=>J8 b (no,nn,nc) (ao,an,ac) (so,sn,sc) (eo,en,ec) (oo,eG,oc) (c,d) f W (h.on (show Below w.heap.size w W from hb')) l2 l3);have yS:=J h.near;have L1:=J l1;obtain⟨h0,h1,h2,h3⟩:=gT w #[O U b.me,D no nn nc,D ao an ac,D so sn sc,D eo en ec,D oo eG oc] #[O U c,O U d] #[O U 0,D X 0 0,D X 0 0,D X 0 0,D X 0 0,D X 0 0] 30 23 30;obtain⟨me,hme⟩:∃ me,me=b.me:=⟨_,rfl⟩;simp only [<- hme] at h0 h1 h2 h3 FG ⊢;have B0:=J h0;have X2:=J h1;have X3:=J h2;have X5:=J h3;clear h0 h1 h2 h3 h l1 l2 l3 hme;show aK Tryz.prog 120 #[aJ #[O U me,D no nn nc,D ao an ac,D so sn sc,D eo en ec,D oo eG oc],O U f,aJ #[O U c,O U d]] w _;go_enter Tryz.func120,Tryz.ntmps120;go_upto_region 1 with fail;generalize (((w.alloc (ah #[O U me,D no nn nc,D ao an ac,D so sn sc,D eo en ec,D oo eG oc] 30)).alloc (ah #[O U c,O U d] 23)).alloc (ah #[O U 0,D X 0 0,D X 0 0,D X 0 0,D X 0 0,D X 0 0] 30))=W at *;have SW:=J (FG.out W B0.out);have x_:=X2.out;have y_:=X3.out;obtain⟨x0,x1,x2,x3,x4,x5⟩:=x_.fD;obtain⟨y0,y1⟩:=y_.cs2;clear x_ y_ FG;go_wp2_with fail;refine SW.out.mono ?_;rintro e1 w1 ⟨⟨⟨QY,mq,mD⟩,⟨QZ,jd,je⟩,rfl,hbr⟩,hb⟩;obtain⟨fb,OX⟩:∃ r,(iQ b (c,d) f).2=r:=⟨_,rfl⟩;have LB:=J OX;rw [OX];have B1:=J (B0.out.trans (hb.mono B0.out.size));have Y2:=X2.out.on hb;have Y3:=X3.out.on hb;have Y5:=X5.out.on hb;obtain⟨k0,k1,k2,k3,k4,k5⟩:=Y2.fD;obtain⟨t0,t1,t2,t3,t4,t5⟩:=Y2.kK;have zz:=Y2.lt;have FB:=J (dL Y2 (O U me) (D no nn nc) (D QY mq mD) (D so sn sc) (D QZ jd je) (D oo eG oc));have B2:=J (dH (b:=w.heap.size) B1.out (ak _) (O U me) (D no nn nc) (D QY mq mD) (D so sn sc) (D QZ jd je) (D oo eG oc));have F3:=J (show dK _ _ _ _ from (dN w1 w.heap.size (O U me) (D no nn nc) (D QY mq mD) (D so sn sc) (D QZ jd je) (D oo eG oc) (w.heap.size+1) (by omega)).trans Y3);have F5:=J (show dK _ _ _ _ from (dN w1 w.heap.size (O U me) (D no nn nc) (D QY mq mD) (D so sn sc) (D QZ jd je) (D oo eG oc) (w.heap.size+1+1) (by omega)).trans Y5);have HB:=J (fK (s1:=(no,nn,nc)) (s2:=(ao,an,ac)) (s3:=(so,sn,sc)) (s4:=(eo,en,ec)) (s5:=(oo,eG,oc)) hbr Y2 (fun j _ hj=>dN w1 w.heap.size (O U me) (D no nn nc) (D QY mq mD) (D so sn sc) (D QZ jd je) (D oo eG oc) j hj) (by rw [(lV b (c,d) f).1]; exact yS.out.on B2.out));clear OX hbr hb SW X2 X3 X5 B1 Y2 Y3 Y5 x0 x1 x2 x3 x4 x5 y0 y1;go_upto_region 2 with fail;clear zz k0 k1 k2 k3 k4 k5 t0 t1 t2 t3 t4 t5;unfold gV at FB B2 F3 F5 HB;generalize ((((((w1.setCell ⟨w.heap.size,0,X⟩ (O U me)).setCell ⟨w.heap.size,1,X⟩ (D no nn nc)).setCell ⟨w.heap.size,2,X⟩ (D QY mq mD)).setCell ⟨w.heap.size,3,X⟩ (D so sn sc)).setCell ⟨w.heap.size,4,X⟩ (D QZ jd je)).setCell ⟨w.heap.size,5,X⟩ (D oo eG oc))=w2 at *;cases fb
 ·have x_:=FB.out;have r_:=F5.out;obtain⟨x0,x1,x2,x3,x4,x5⟩:=x_.fD;obtain⟨r0,r1,r2,r3,r4,r5⟩:=r_.fD;obtain⟨t0,t1,t2,t3,t4,t5⟩:=r_.kK;have zz:=r_.lt;have GB:=J (dL r_ (O U me) (D no nn nc) (D QY mq mD) (D so sn sc) (D QZ jd je) (D oo eG oc));have BL:=J (dH (b:=w.heap.size+1+1) B2.out (by omega) (O U me) (D no nn nc) (D QY mq mD) (D so sn sc) (D QZ jd je) (D oo eG oc));have HC:=J (fK (s1:=(X,0,0)) (s2:=(X,0,0)) (s3:=(X,0,0)) (s4:=(X,0,0)) (s5:=(X,0,0)) HB.out r_ (fun j _ hj=>dN w2 (w.heap.size+1+1) (O U me) (D no nn nc) (D QY mq mD) (D so sn sc) (D QZ jd je) (D oo eG oc) j hj) (by rw [(lV b (c,d) f).1]; exact yS.out.on BL.out));clear x_ r_ HB FB F3 F5;go_wp2_with fail;obtain⟨T,a0,a3,a4,a5,a6⟩:=GB.out.fD;refine bodyPost_ret (v:=.tuple #[aJ #[O U me,D no nn nc,D QY mq mD,D so sn sc,D QZ jd je,D oo eG oc],D X 0 0]) (by simp [results,Tryz.results120,go_sem,T,a0,a3,a4,a5,a6]) rfl ?_;exact⟨⟨(QY,mq,mD),(QZ,jd,je),(X,0,0),rfl,HC.out,by unfold Dl; rw [LB.out]; exact Or.inl ⟨rfl,rfl⟩⟩,BL.out⟩
 ·go_upto_region 4 with fail;refine XJ _ w2 w.heap.size (w.heap.size+1) (w.heap.size+1+1) me f c d no QY so QZ oo nn nc mq mD sn sc jd je eG oc b.near _ _ _ _ _ _ _ _ _ _ _ _ _ _ _ _ _ _ _ _ _ _ _ _ _ _ _ FB.out F3.out F5.out (yS.out.on B2.out) L1.out ?_;intro a9 x9 sl Kz h69 h79 hbx ho hblk hbl;have BL:=J (B2.out.trans (hbl w.heap.size (by omega)));have HC:=J (fK (s1:=(X,0,0)) (s2:=(X,0,0)) (s3:=(X,0,0)) (s4:=(X,0,0)) (s5:=(X,0,0)) HB.out F5.out (fun j hlt hj=>hblk j hlt hj) (by rw [(lV b (c,d) f).1]; exact yS.out.on BL.out));have HU:=J (Row.dJ ho);have akg:=hbx;obtain⟨T,a0,a3,a4,a5,a6⟩:=akg.fD;clear akg hbx ho hblk hbl HB FB F3 F5;simp only [Exit.then]
  apply_assumption
  go_wp2_with fail;refine bodyPost_ret (v:=.tuple #[aJ #[O U me,D no nn nc,D QY mq mD,D so sn sc,D QZ jd je,D oo eG oc],dX sl]) (by simp [results,Tryz.results120,go_sem,h69,h79,T,a0,a3,a4,a5,a6]) Kz ?_;exact⟨⟨(QY,mq,mD),(QZ,jd,je),sl,rfl,HC.out,by unfold Dl; rw [LB.out]; exact HU.out⟩,BL.out⟩
end Bk
namespace Rg
open Go.RowKit Rw Av
structure aeb (i N S:Nat) (d last:Nat->Nat) (V:Nat->au->aj->Prop) (base:Act) (o:Oper) (a:Act) (x:aj):Prop where
 kp:∀ j u,(∀ i,i<N->d i≠j)->base.tmps[j]?=aC u->a.eval (.tmp j)=u
 at_:∀ e∈o.after,ay .any e=aD->e.on≠S->(last e.on=i\/N<=last e.on)->V e.on (a.eval (.tmp (d e.on))) x
def Sto (b:Nat) (W x:aj):Prop:=But b W x/\∀ B,B<=b->Below B W x
theorem Sto.grow {b:Nat} {W x x':aj} (h:Sto b W x) (hl:b<W.heap.size) (hb:Below x.heap.size x x'):Sto b W x' :=
 ⟨⟨fun k hk hne=>(hb.block k (aF hk h.1.2)).trans (h.1.1 k hk hne),Y h.1.2 hb.size⟩,fun B hB=>(h.2 B hB).trans (hb.mono (Y (Y hB (Nat.le_of_lt hl)) h.1.2))⟩
structure InY (l:List Oper) (N S C:Nat) (d last:Nat->Nat) (V:Nat->au->aj->Prop) (t:TypeId) (bb:Nat) (old:Array au) (VJ:au->Array au) (base:Act) (W:aj) (L:Array Bool) (a:Act) (x:aj):Prop where
 cl:∀ i o,done L i->l[i]?=aC o->∀ e∈o.after,ay .any e=aD->done L e.on
 no:∀ i,N<=i->¬ done L i
 df:a.defers=base.defers
 sz:a.tmps.size=base.tmps.size
 kp:∀ j,(∀ i,i<N->d i≠j)->a.tmps[j]?=base.tmps[j]?
 sto:Sto bb W x
 val:∃ vs:Nat->au,∀ i,i<N->i≠S->done L i->a.tmps[d i]?=aC (vs i)/\(¬ done L (last i)->V i (vs i) x)
 box:¬ done L S->Below W.heap.size W x/\dK x bb old t
 fin:done L S->∃ v,a.tmps[d C]?=aC v/\dK x bb (VJ v) t/\V C v x
theorem UH {P:Program} {Q:Exit->Act->aj->Prop} {id:Nat} {base:Act} {W:aj} {l:List Oper} (N S C:Nat) (d last:Nat->Nat) (V:Nat->au->aj->Prop) (fl:Nat->Bool) (t:TypeId) (bb:Nat) (old:Array au) (VJ:au->Array au)
  (hm:P.follows .mixedOrders=aD) (hf:JO l.toArray=aD) (hN:l.length=N) (hS:S<N) (hC:C<N) (hCS:C≠S) (hlC:N<=last C) (ku:dK W bb old t)
  (hinj:∀ i j,i<N->j<N->i≠S->j≠S->d i=d j->i=j) (hs:∀ i,i<N->i≠S->d i<base.tmps.size)
  (hV:∀ i v x x',i<N->V i v x->Below x.heap.size x x'->V i v x')
  (hfl:∀ o,l[S]?=aC o->∀ i,i<N->i≠S->fl i=aH->∃ e∈o.after,ay .any e=aD/\e.on=i) (akh:fl C=aH)
  (hop:∀ i o,i<N->i≠S->l[i]?=aC o->∀ a x,(fl i=aH->Below W.heap.size W x/\dK x bb old t)->aeb i N S d last V base o a x->∀ K:Act->aj->Prop,(∀ v x',V i v x'->Below x.heap.size x x'->K (a.put (aC (d i)) v) x')->wpOp P l.toArray Q i K a x)
  (hoS:∀ o,l[S]?=aC o->∀ a x v,Below W.heap.size W x->dK x bb old t->a.eval (.tmp (d C))=v->V C v x->(∀ j u,base.tmps[j]?=aC u->(∀ i,i<N->d i≠j)->a.eval (.tmp j)=u)->∀ K:Act->aj->Prop,(∀ x',But bb x x'->(∀ B w,B<=bb->Below B w x->Below B w x')->dK x' bb (VJ v) t->(∀ j u,j<N->j≠S->N<=last j->V j u x->V j u x')->K a x')->wpOp P l.toArray Q S K a x)
  (hlast:∀ j,j<N->j≠S->N<=last j\/(last j<N/\last j≠S/\fl (last j)=aH))
  (hend:∀ a x v,a.defers=base.defers->a.tmps.size=base.tmps.size->(∀ j,(∀ i,i<N->d i≠j)->a.tmps[j]?=base.tmps[j]?)->a.tmps[d C]?=aC v->dK x bb (VJ v) t->V C v x->Sto bb W x->(∃ vs:Nat->au,∀ i,i<N->i≠S->a.tmps[d i]?=aC (vs i)/\(N<=last i->V i (vs i) x))->Q .normal a x):(Code.region id l.toArray aD).wp P Q base W:=by
 have hbl:bb<W.heap.size:=ku.lt;refine nU (fun L a x=>InY l N S C d last V t bb old VJ base W L a x) hm hf ?_ ?_ ?_
 ·exact⟨fun i o h=>absurd h (gF _ _),fun i _=>gF _ _,rfl,rfl,fun _ _=>rfl,⟨⟨fun _ _ _=>rfl,ak _⟩,fun B hB=>(aA _ _).drew⟩,⟨fun _=>.bool aD,fun i _ _ h=>absurd h (gF _ _)⟩,fun _=>⟨(aA _ _).drew,ku⟩,fun h=>absurd h (gF _ _)⟩
 ·intro L a x i o hsz I ho hnd mP;have hi:i<l.length:=(List.getElem?_eq_some_iff.1 ho).1;have hiN:i<N:=by omega
  have yY:i<L.size:=by omega
  obtain⟨vs,hvs⟩:=I.val;obtain⟨oS,Km⟩:∃ oS,l[S]?=aC oS:=⟨_,Z (by omega)⟩;have hon:∀ e∈o.after,ay .any e=aD->e.on<i:=fun e he hb=>by
   have h7:=List.all_eq_true.1 hf i (List.mem_range.2 (by simpa using hi));have ho':(l.toArray)[i]?=aC o:=by simpa using ho
   rw [ho'] at h7;have h8:=Array.all_eq_true'.1 h7 e he;rw [hb] at h8;simpa using h8
  have dd:∀ {k},k≠i->done (L.setIfInBounds i aD) k->done L k:=fun {k} h h5=>((iw yY k).1 h5).resolve_left h;have du:∀ {k},done L k->done (L.setIfInBounds i aD) k:=fun {k} h=>(iw yY k).2 (Or.inr h);have cl':∀ k q,done (L.setIfInBounds i aD) k->l[k]?=aC q->∀ e∈q.after,ay .any e=aD->done (L.setIfInBounds i aD) e.on:=fun k q hk hq e he hb=>by
   by_cases e2:k=i
   ·subst e2;rw [hq] at ho;cases ho;exact du (mP e he hb)
   ·exact du (I.cl k q (dd e2 hk) hq e he hb)
  have no':∀ k,N<=k->¬ done (L.setIfInBounds i aD) k:=fun k hk h=>I.no k hk (dd (by omega) h);have early:∀ k,k<N->k≠S->fl k=aH->¬ done L k->¬ done L S:=fun k hk Fb hfk hnk hdS=>by
   obtain⟨e,h1,h2,h3⟩:=hfl oS Km k hk Fb hfk;exact hnk (h3 ▸ I.cl S oS hdS Km e h1 h2)
  by_cases Bl:i=S
  ·subst Bl;have dC:done L C:=by
    obtain⟨e,h1,h2,h3⟩:=hfl o ho C hC hCS akh;exact h3 ▸ mP e h1 h2
   obtain⟨T,a0⟩:=hvs C hC hCS dC;have vC:=a0 (I.no _ hlC);obtain⟨b1,b2⟩:=I.box hnd;refine hoS o ho a x (vs C) b1 b2 (dP T) vC (fun j u hu hj=>dP (by rw [I.kp j hj]; exact hu)) _ (fun x' q1 q2 q3 q4=>⟨cl',no',I.df,I.sz,I.kp,⟨⟨fun k hk hne=>(q1.1 k (aF hk b1.size) hne).trans (I.sto.1.1 k hk hne),Y b1.size q1.2⟩,fun B hB=>q2 B W hB (I.sto.2 B hB)⟩,⟨vs,fun k hk Fb hdn=>?_⟩,fun hn=>absurd ((iw yY _).2 (Or.inl rfl)) hn,fun _=>⟨vs C,T,q3,?_⟩⟩)
   ·obtain⟨w1,w2⟩:=hvs k hk Fb (dd Fb hdn);refine⟨w1,fun hnl=>?_⟩;rcases hlast k hk Fb with h5|⟨h5,h6,h7⟩
    ·exact q4 k _ hk Fb h5 (w2 (I.no _ h5))
    ·exfalso;obtain⟨e,g1,g2,g3⟩:=hfl o ho (last k) h5 h6 h7;exact hnl (du (g3 ▸ mP e g1 g2))
   ·exact q4 C _ hC hCS hlC vC
  ·have seen:aeb i N S d last V base o a x:=⟨fun j u hj hu=>dP (by rw [I.kp j hj]; exact hu),fun e he hb hS' hl=>by
    obtain⟨h1,h2⟩:=hvs e.on (by have:=hon e he hb; omega) hS' (mP e he hb);rw [dP h1];refine h2 ?_;rcases hl with hl|hl
    ·rw [hl]; exact hnd
    ·exact I.no _ hl⟩
   refine hop i o hiN Bl ho a x (fun hfi=>I.box (early i hiN Bl hfi hnd)) seen _ (fun v x' hpv hb=>?_);have self:(a.put (aC (d i)) v).tmps[d i]?=aC v:=by
    have h5:d i<a.tmps.size:=by rw [I.sz]; exact hs i hiN Bl
    simp [Act.put,h5]
   have keep:∀ k,k<N->k≠S->k≠i->(a.put (aC (d i)) v).tmps[d k]?=a.tmps[d k]?:=fun k hk Fb hki=>get_put _ _ _ _ (fun e=>hki (hinj _ _ hk hiN Fb Bl e));refine⟨cl',no',I.df,by rw [size_put]; exact I.sz,fun j hj=>?_,I.sto.grow hbl hb,⟨fun k=>if k=i then v else vs k,fun k hk Fb hdn=>?_⟩,fun h2=>?_,fun h1=>?_⟩
   ·rw [get_put _ _ _ _ (fun e=>hj i hiN e.symm)];exact I.kp j hj
   ·by_cases e:k=i
    ·subst e;simp only [if_true];exact⟨self,fun _=>hpv⟩
    ·simp only [if_neg e];obtain⟨h3,h4⟩:=hvs k hk Fb (dd e hdn);exact⟨by rw [keep k hk Fb e]; exact h3,fun h6=>hV k _ _ _ hk (h4 (fun h=>h6 (du h))) hb⟩
   ·obtain⟨b1,b2⟩:=I.box (fun h=>h2 (du h));exact⟨b1.trans (hb.mono b1.size),b2.on hb⟩
   ·have h2:=dd (Ne.symm Bl) h1;obtain⟨u,h6,h8,h9⟩:=I.fin h2;obtain⟨ec,k4,k5,k6⟩:=hfl oS Km C hC hCS akh;have dC:=I.cl S oS h2 Km ec k4 k5;rw [k6] at dC;have eC:C≠i:=fun e=>hnd (e ▸ dC);exact⟨u,by rw [keep C hC hCS eC]; exact h6,h8.on hb,hV C _ _ _ hC h9 hb⟩
 ·intro L a x I hd;have dS:=hd S (by omega);obtain⟨v,h2,h4,h5⟩:=I.fin dS;obtain⟨vs,hvs⟩:=I.val;exact hend a x v I.df I.sz I.kp h2 h4 h5 I.sto ⟨vs,fun i hi Bl=>by
   obtain⟨k1,k2⟩:=hvs i hi Bl (hd i (by omega));exact⟨k1,fun hl=>k2 (I.no _ hl)⟩⟩
end Rg
namespace Av
open Go.RowKit Go.Sort Rw YtghlpefopidlaaaGreat.Nm Pr Bk
theorem oz {P:Program} (ρ:Operand->au) (o:Oper) (y:Operand) (k:Nat) (ho:o.op=.extract y k) {c:Array au} {v:au} (hx:ρ y=.tuple c) (hv:c[k]?=aC v) (w:aj):(execOp ρ o).run P w=.ok (.value v) w:=by
 simp [execOp,ho,hx,hv,go_sem]
end Av
end Go.Proofs.YtghlpefopidlaaaGreat
