/-
  Add of package subs:. Conditions as told.
-/
import Derived.Test.YtghlpefopidlaaaGreatOQ032
import Derived.Test.YtghlpefopidlaaaGreatOQ033
set_option maxRecDepth 100000
set_option maxHeartbeats 64000000
open _root_.Bool renaming false->aj,true->aR
open _root_.Go renaming World->aF
open Go.IntKind renaming i64->U
open Go.Lib renaming hid->J
open Go.Obj renaming cells->aC
open Go.Proofs.Tryz renaming results114->aB,results117->aD,prog->aW
open Go.Value renaming slice->D,int->Q,bool->ak,agg->aX
open _root_.List renaming getElem?_cons_zero->K,getElem?_cons_succ->L,getElem?_toArray->O,mem_iff_getElem?->au,getElem?_eq_some_iff->ay,getElem?_map->aG,append_assoc->aH,getElem?_take_of_lt->aJ,getElem?_set_self->aK,singleton_append->aM,mem_of_getElem?->aP,getElem?_drop->aQ,length_take->aT,mem_append->aU,mem_cons->aV
open _root_.Nat renaming le_refl->aO,le_trans->aS
open _root_.Option renaming none->ah,some->aA
open Option.some renaming inj->aL
open _root_.Or renaming inr->aI,inl->aN
namespace Go.Proofs.YtghlpefopidlaaaGreat.Sb
open Go.RowKit Go.Sort Rw YtghlpefopidlaaaGreat.Nm Pr Bk Av Rl
theorem PM.less {w0 wr:aF} {B B':Nat} {v:Value} {p:List C5} (h:PM w0 B wr v p) (hB:B'<=B):PM w0 B' wr v p:=h.imp id fun h=>dH h hB
theorem Cp.less {w0 wr:aF} {B B':Nat} {b:Br} {nv av sv ev ov:Sl} (h:Cp w0 B wr b nv av sv ev ov) (hB:B'<=B):Cp w0 B' wr b nv av sv ev ov where
 near:=dH h.near hB
 seen:=dH h.seen hB
 dG:=by obtain⟨l,h1,h2⟩:=h.dG; exact⟨l,dH h1 hB,h2.mono fun _ _ q=>⟨q.1,q.2.1,PM.less q.2.2 hB⟩⟩
 ent:=by obtain⟨l,h1,h2⟩:=h.ent; exact⟨l,dH h1 hB,h2.mono fun _ _ q=>⟨q.1,q.2.1,q.2.2.1,q.2.2.2.1,PM.less q.2.2.2.2 hB⟩⟩
 own:=by obtain⟨l,h1,h2⟩:=h.own; exact⟨l,dH h1 hB,h2.mono fun _ _ q=>⟨q.1,PM.less q.2 hB⟩⟩
def zG (b:Br) (e:En):Br×Bool:=match fH b.dG e.tree with
 | none=>(b,aj)
 | some a=>if gW b.ent e.tree e.sub=aR then (b,aj) else if e.from_=a.par/\a.par≠-1 then (b,aj) else
  ({ b with ent:=eZ b.ent (dR (b.ent.map dF) (e.tree,e.sub)) { e with up:=!(a.par == -1) && !dV b.ent e.tree e.p } },!(a.par == -1) && !dV b.ent e.tree e.p)
theorem nH {b:Br} (hr:fV b.ent) {e:En}:zG b e=iA b e:=by
 unfold zG iA;have ft:=nG hr e.tree e.sub;have ek:dF e=(e.tree,e.sub):=rfl;rw [ek,ft];by_cases h:fC (b.dG.map Ad.id) e.tree=-1
 ·have hn:fH b.dG e.tree=ah:=uO fun j a hj=>Ic (key:=Ad.id) h j a hj;rw [hn];cases b.dG[(fC (b.dG.map Ad.id) e.tree).toNat]? with
  | none=>rfl
  | some a=>simp only; rw [if_pos h]
 ·obtain⟨k,hk⟩:∃ k:Nat,fC (b.dG.map Ad.id) e.tree=k:=⟨(fC (b.dG.map Ad.id) e.tree).toNat,by have:=qz (b.dG.map Ad.id) e.tree; omega⟩;obtain⟨g1,g2⟩:=xQ hk;rw [aG] at g1;cases ha:b.dG[k]? with
  | none=>rw [ha] at g1; cases g1
  | some a =>
   rw [ha] at g1;have hx:a.id=e.tree:=aL g1;have hf:fH b.dG e.tree=aA a:=qD ha hx fun j z hj hz=>g2 j z.id hj (by rw [aG,hz]; rfl);rw [hf,hk,Int.toNat_natCast,ha];simp only;rw [if_neg (show ¬ ((k:Int)=-1) by omega)];have e1:(!(a.par == -1))=decide (a.par≠-1):=by by_cases hp:a.par=-1 <;> simp [hp]
   rw [e1];by_cases ht:gW b.ent e.tree e.sub=aR
   ·rw [if_pos ht,if_pos ht,if_pos (by omega)]
   ·rw [if_neg ht,if_neg ht,if_neg (show ¬ ((-1:Int)≠-1) by simp)];by_cases hp:e.from_=a.par/\a.par≠-1
    ·rw [if_pos hp,if_pos ⟨by rw [hp.1]; exact hp.2,hp.1⟩]
    ·rw [if_neg hp,if_neg fun q=>hp ⟨q.2,by rw [<- q.2]; exact q.1⟩]
def zH (W:aF) (P R:Prop) (m:List En) (r:Br×Bool) (e:Ending) (w':aF):Prop:=(∃ nv av sv ev ov:Sl,e=.returned (.tuple #[nO r.1.me nv av sv ev ov,ak r.2])/\lW w' r.1 nv av sv ev ov/\(P->iP w' nv r.1.near)/\(R\/r.2=aR->jf w' r.1 nv av sv ev ov)/\(r.1.ent=m\/∃ (V:aF) (B:Nat),W.heap.size<=B/\Cp (vw V) B w' r.1 nv av sv ev ov))/\Below W.heap.size W w'
theorem zH.two {W:aF} {P R:Prop} {m:List En} {r:Br×Bool} {e:Ending} {w':aF} (h:zH W P R m r e w'):qI W P R r e w':=by
 obtain⟨⟨a1,a2,a3,a4,a5,h1,h2,h3,h4,_⟩,h5⟩:=h;exact⟨⟨a1,a2,a3,a4,a5,h1,h2,h3,h4⟩,h5⟩
theorem IK (b:Br) (e:En) (nv av sv ev ov:Sl) (x:iT) (w:aF) (h:lW w b nv av sv ev ov) (he:lH w x e) (hf:zh b) (hp:mE b) (hr:fV b.ent) (hok:∀ e∈b.ent,dU e.p) (hoe:dU e.p) :
  Calls aW 114 #[nO b.me nv av sv ev ov,tF x] w (zH w (iP w nv b.near) (jf w b nv av sv ev ov) b.ent (iA b e)):=by
 obtain⟨no,nn,nc⟩:=nv;obtain⟨ao,an,ac⟩:=av;obtain⟨so,sn,sc⟩:=sv;obtain⟨eo,en,ec⟩:=ev;obtain⟨oo,kg,oc⟩:=ov;obtain⟨y1,y2,y3,y4,⟨yo,yn,yc⟩,y6,y7⟩:=x;obtain⟨h0,h1,h2,h3⟩:=iZ w #[Q U b.me,D no nn nc,D ao an ac,D so sn sc,D eo en ec,D oo kg oc] #[Q U y1,Q U y2,Q U y3,Q U y4,D yo yn yc,Q U y6,ak y7] #[Q U 0,D ah 0 0,D ah 0 0,D ah 0 0,D ah 0 0,D ah 0 0] 30 67 30;have BB:=J h0;have X1:=J h1;have X2:=J h2;have X3:=J h3;have HH:=J h;have EE:=J he;have HF:=J hf;have HP:=J hp;have HR:=J hr;have OK:=J hok;have OE:=J hoe;obtain⟨la,ha1,ha2⟩:=h.dG;have SW:=J (AA b.me (D no nn nc) (D so sn sc) (D eo en ec) (D oo kg oc) (ao,an,ac) la b.dG (y1,y2) _ (ha1.on BB.out) (ha2.mono fun _ _ q=>q.on BB.out) hp.dG);have ET:=J (show e.tree=(y1,y2) from he.1.symm);have ES:=J (show e.sub=(y3,y4) from he.2.1.symm);have EF:=J (show e.from_=y6 from he.2.2.1.symm);obtain⟨x0,x1,x2,x3,x4,x5⟩:=X1.out.gQ;obtain⟨d0,d1,d2,d3,d4,d5,d6⟩:=X2.out.zT;clear h0 h1 h2 h3 h he hf hp hr hok hoe ha1 ha2 la;go_enter Tryz.func114,Tryz.ntmps114;go_wp2_with fail;generalize ((w.alloc (aC #[Q U b.me,D no nn nc,D ao an ac,D so sn sc,D eo en ec,D oo kg oc] 30)).alloc (aC #[Q U y1,Q U y2,Q U y3,Q U y4,D yo yn yc,Q U y6,ak y7] 67)).alloc (aC #[Q U 0,D ah 0 0,D ah 0 0,D ah 0 0,D ah 0 0,D ah 0 0] 30)=W at *;refine SW.out.mono ?_;rintro e1 w1 ⟨hq,hb⟩;have B1:=J (BB.out.trans (hb.mono BB.out.size));have Z1:=J (X1.out.on hb);have Z2:=J (X2.out.on hb);have Z3:=J (X3.out.on hb);clear hb SW X1 X2 X3;clear x0 x1 x2 x3 x4 x5;clear d0 d1 d2 d3 d4 d5 d6;obtain⟨⟨r1,r2,⟨ro,rn,rc⟩,r4⟩,kn,rfl,hin⟩:∃ (r:jD) (kn:Bool),e1=.returned (.tuple #[kR r,ak kn])/\((kn=aj/\fH b.dG (y1,y2)=ah)\/(kn=aR/\∃ a,fH b.dG (y1,y2)=aA a/\r.2.2.2=a.par)):=by
  cases hfa:fH b.dG (y1,y2) with
  | none =>
   rw [hfa] at hq;exact⟨_,aj,hq,aN ⟨rfl,rfl⟩⟩
  | some a =>
   rw [hfa] at hq;obtain⟨r,h1,h2⟩:=hq;exact⟨r,aR,h1,aI ⟨rfl,a,rfl,h2.2.1⟩⟩
 have HI:=J hin;have nb:=iM w1 (aC #[Q U r1,Q U r2,D ro rn rc,Q U r4] 36);have AB:=J (dK w1 #[Q U r1,Q U r2,D ro rn rc,Q U r4] 36);have B2:=J (B1.out.trans (nb.mono B1.out.size));have Y1:=J (Z1.out.on nb);have Y2:=J (Z2.out.on nb);have Y3:=J (Z3.out.on nb);obtain⟨Xr,hs1,hs2⟩:=HH.out.ent;have PL:=J (rZ (eo,en,ec) Xr b.ent (y1,y2) (y3,y4) _ (hs1.on B2.out) (hs2.mono fun _ _ q=>q.on B2.out) HR.out (by rw [hs2.len]; have:=HF.out.ent; omega));have Yo:=J hs1;have UZ:=J hs2;obtain⟨k,hk⟩:∃ k,dR (b.ent.map dF) ((y1,y2),(y3,y4))=k:=⟨_,rfl⟩;obtain⟨th,hth⟩:∃ k,gW b.ent (y1,y2) (y3,y4)=k:=⟨_,rfl⟩;rw [hk,hth] at PL;have HK:=J hk;have TH:=J hth;have KL:=J (show k<=b.ent.length by rw [<- hk]; simpa using mq (b.ent.map dF) ((y1,y2),(y3,y4)));have x4:=Y1.out.cell 4;simp only [O,K,L] at x4;have d1:=Y2.out.cell 1;have d0:=Y2.out.cell 0;have d2:=Y2.out.cell 2;have d3:=Y2.out.cell 3;simp only [O,K,L] at d0 d1 d2 d3;clear hin hq nb hs1 hs2 hk hth Z1 Z2 Z3;go_wp2_with fail;generalize hw2:w1.alloc (aC #[Q U r1,Q U r2,D ro rn rc,Q U r4] 36)=w2 at *;refine PL.out.mono ?_;rintro e2 w3 ⟨rfl,hb⟩;have BW:=J (B2.out.trans (hb.mono B2.out.size));have T1:=J (Y1.out.on hb);have T2:=J (Y2.out.on hb);have T3:=J (Y3.out.on hb);have TA:=AB.out.on hb;clear x4;clear d0 d1 d2 d3;have a3:=TA.cell 3;have d5:=T2.out.cell 5;simp only [O,K,L] at a3 d5;obtain⟨fq,hfq⟩:∃ q,(y6 == r4)=q:=⟨_,rfl⟩;obtain⟨rt,hrt⟩:∃ q,(r4 == -1)=q:=⟨_,rfl⟩;have FQ:=J hfq;have RT:=J hrt;clear hb PL TA Y1 Y2 Y3 AB hw2;cases kn
 ·have LQ:=J (show iA b e=(b,aj) from by
   rw [<- nH HR.out];unfold zG;have h0:fH b.dG e.tree=ah:=by
    rw [ET.out];rcases HI.out with⟨_,h⟩|⟨h,_⟩
    ·exact h
    ·cases h
   rw [h0])
  have Q1:=T1.out;have Q3:=T3.out;obtain⟨x0,x1,x2,x3,x4,x5⟩:=Q1.gQ;obtain⟨z0,z1,z2,z3,z4,z5⟩:=Q3.gQ;obtain⟨Js,Jt,Ju,Jv,Jw,Jy⟩:=Q3.nS;have Jz:=Q3.lt;have FB:=J (dP Q3 (Q U b.me) (D no nn nc) (D ao an ac) (D so sn sc) (D eo en ec) (D oo kg oc));have FL:=J (dD (b:=w.heap.size+1+1) BW.out (by omega) (Q U b.me) (D no nn nc) (D ao an ac) (D so sn sc) (D eo en ec) (D oo kg oc));clear Q1 Q3;go_wp2_with fail;clear z0 z1 z2 z3 z4 z5;obtain⟨v0,v1,v2,v3,v4,v5⟩:=FB.out.gQ;refine bodyPost_ret (v:=.tuple #[aX #[Q U b.me,D no nn nc,D ao an ac,D so sn sc,D eo en ec,D oo kg oc],ak aj]) (by simp [results,aB,go_sem,v0,v1,v2,v3,v4,v5]) rfl ?_;rw [LQ.out];exact⟨⟨(no,nn,nc),(ao,an,ac),(so,sn,sc),(eo,en,ec),(oo,kg,oc),rfl,HH.out.on FL.out,fun h=>h.on FL.out,fun h=>(h.resolve_right (by simp)).on FL.out,aN rfl⟩,FL.out⟩
 ·cases th
  ·cases rt
   ·cases fq
    ·have x1:=T2.out.cell 1;have x0:=T2.out.cell 0;have x2:=T2.out.cell 2;have x3:=T2.out.cell 3;have x4:=T2.out.cell 4;have x6:=T2.out.cell 6;simp only [O,K,L] at x0 x1 x2 x3 x4 x6;have PE:=J (show gq w3 (D yo yn yc) e.p from (EE.out.2.2.2.2).on BW.out);have Yp:=J (show w.heap.size<=w3.heap.size from BW.out.size);have CP:=J (tT (y1,y2,y3,y4,(yo,yn,yc),y6,y7) e.p w3 PE.out (gM OE.out));go_wp2_with fail;refine CP.out.mono ?_;rintro e4 R6 ⟨⟨⟨u1,u2,u3⟩,rfl,ho⟩,hb⟩;clear x0 x1 x2 x3 x4 x6;clear a3 d5;have V2:=T2.out.on hb;obtain⟨x0,x1,x2,x3,x4,x5,x6⟩:=V2.zT;obtain⟨xf0,xf1,R7,R8,IL,R9,Sc⟩:=V2.Tv;have xlt:=V2.lt;have bs:=Ba R6 (w.heap.size+1) (Q U y1) (Q U y2) (Q U y3) (Q U y4) (D u1 u2 u3) (Q U y6) (ak y7);have E2:=J (oF V2 (Q U y1) (Q U y2) (Q U y3) (Q U y4) (D u1 u2 u3) (Q U y6) (ak y7));have E1:=J (bs.box (T1.out.on hb) (by omega));have E3:=J (bs.box (T3.out.on hb) (by omega));have EO:=J (bs.own ho V2 (by decide));have EL:=J (kS (b:=w.heap.size+1) (BW.out.trans (hb.mono BW.out.size)) (by omega) (Q U y1) (Q U y2) (Q U y3) (Q U y4) (D u1 u2 u3) (Q U y6) (ak y7));have Oo:=J (show w3.heap.size<=(AY R6 (w.heap.size+1) (Q U y1) (Q U y2) (Q U y3) (Q U y4) (D u1 u2 u3) (Q U y6) (ak y7)).heap.size by have:=hb.size; simp; omega);have L4:=J (show w.heap.size+1+1<w3.heap.size from T3.out.lt);clear V2 ho hb CP T1 T2 T3 BW bs;go_upto_region 7 with fail;clear x0 x1 x2 x3 x4 x5 x6 xf0 xf1 R7 R8 IL R9 Sc xlt;unfold AY at E2 E1 E3 EO EL Oo;generalize (((((((R6).setCell ⟨w.heap.size+1,0,ah⟩ (Q U y1)).setCell ⟨w.heap.size+1,1,ah⟩ (Q U y2)).setCell ⟨w.heap.size+1,2,ah⟩ (Q U y3)).setCell ⟨w.heap.size+1,3,ah⟩ (Q U y4)).setCell ⟨w.heap.size+1,4,ah⟩ (D u1 u2 u3)).setCell ⟨w.heap.size+1,5,ah⟩ (Q U y6)).setCell ⟨w.heap.size+1,6,ah⟩ (ak y7)=TS at *;have x1:=E2.out.cell 1;have x0:=E2.out.cell 0;have x4:=E2.out.cell 4;simp only [O,K,L] at x0 x1 x4;obtain⟨z0,z1,z2,z3,z4,z5⟩:=E1.out.gQ;have CV:=J (La b.me (D no nn nc) (D ao an ac) (D so sn sc) (D oo kg oc) (eo,en,ec) Xr b.ent (y1,y2) (D u1 u2 u3) e.p TS (Yo.out.on EL.out) (UZ.out.mono fun _ _ q=>q.on EL.out) HR.out (by rw [UZ.out.len]; have:=HF.out.ent; omega) (Row.dB EO.out) OK.out OE.out);obtain⟨cv,hcv⟩:∃ c,dV b.ent (y1,y2) e.p=c:=⟨_,rfl⟩;rw [hcv] at CV;have CVQ:=J hcv;clear hcv;go_wp2_with fail;refine CV.out.mono ?_;rintro e5 Xt ⟨rfl,hb⟩;clear x0 x1 x4;clear z0 z1 z2 z3 z4 z5
     replace E2:=J (E2.out.on hb)
     replace E1:=J (E1.out.on hb)
     replace E3:=J (E3.out.on hb)
     replace EO:=J (Bk.dI EO.out hb)
     replace Oo:=J (aS Oo.out hb.size)
     replace EL:=J (EL.out.trans (hb.mono EL.out.size))
     clear CV hb;have x6:=E2.out.cell 6;have Sc:=E2.out.fr 6;have xlt:=E2.out.lt;simp only [O,K,L] at x6;have bs:=dM Xt (w.heap.size+1) 6 (ak (!cv));have T2:=J (show dx (Xt.setCell ⟨w.heap.size+1,6,ah⟩ (ak (!cv))) (w.heap.size+1) #[Q U y1,Q U y2,Q U y3,Q U y4,D u1 u2 u3,Q U y6,ak (!cv)] 67 by simpa using dY (k:=6) E2.out (ak (!cv)));have T1:=J (bs.box E1.out (by omega));have T3:=J (bs.box E3.out (by omega));have OC:=J (bs.own EO.out E2.out (by decide));have BW:=J (EL.out.setCell (p:=⟨w.heap.size+1,6,ah⟩) (by simp) (ak (!cv)));have U0:=J (show w3.heap.size<=(Xt.setCell ⟨w.heap.size+1,6,ah⟩ (ak (!cv))).heap.size by have:=Oo.out; simp; omega);clear bs E1 E2 E3 EO EL Oo;go_upto_region 8 with fail;clear x6 Sc xlt;generalize Xt.setCell ⟨w.heap.size+1,6,ah⟩ (ak (!cv))=w5 at *;have LQ:=J (show iA b e=({ b with ent:=eZ b.ent k { e with up:=(!cv) } },(!cv)) from by
      rw [<- nH HR.out];unfold zG;obtain⟨a,h0,h1⟩:∃ a,fH b.dG e.tree=aA a/\r4=a.par:=by
       rw [ET.out];rcases HI.out with⟨h,_⟩|⟨_,h⟩
       ·cases h
       ·exact h
      rw [h0];simp only;rw [if_neg (by rw [ET.out,ES.out,TH.out]; simp),if_neg ?_,show dR (b.ent.map dF) (e.tree,e.sub)=k by rw [ET.out,ES.out]; exact HK.out,<- h1,RT.out]
      ·rw [ET.out,CVQ.out]
       rfl
      ·rintro⟨g,_⟩;rw [EF.out,<- h1] at g;have:=FQ.out;simp at this;exact this g)
     have Q1:=T1.out;obtain⟨x0,x1,x2,x3,x4,x5⟩:=Q1.gQ;clear Q1;go_wp2_with fail;refine (kH b (no,nn,nc) (ao,an,ac) (so,sn,sc) (eo,en,ec) (oo,kg,oc) w w5 BW.out HH.out HF.out HP.out).mono ?_;rintro e6 w6 ⟨⟨⟨p1,q1,s1⟩,⟨p2,q2,s2⟩,⟨p3,q3,s3⟩,⟨p4,q4,s4⟩,⟨p5,q5,s5⟩,rfl,cp⟩,hb6⟩;clear x0 x1 x2 x3 x4 x5;have V1:=T1.out.on hb6;have V2:=J (T2.out.on hb6);have V3:=J (T3.out.on hb6);obtain⟨x0,x1,x2,x3,x4,x5⟩:=V1.gQ;obtain⟨xf0,xf1,R7,R8,IL,R9⟩:=V1.nS;have xlt:=V1.lt;have bs:=dW w6 w.heap.size (Q U b.me) (D p1 q1 s1) (D p2 q2 s2) (D p3 q3 s3) (D p4 q4 s4) (D p5 q5 s5);have FB:=J (dP V1 (Q U b.me) (D p1 q1 s1) (D p2 q2 s2) (D p3 q3 s3) (D p4 q4 s4) (D p5 q5 s5));have FC:=J (Sb.Cp.less (cp.but bs V1) (show w3.heap.size<=w5.heap.size from U0.out));have FO:=J (bs.own (Bk.dI OC.out hb6) V1 (by decide));have FL:=J (dD (b:=w.heap.size) (BW.out.trans (hb6.mono BW.out.size)) (aO _) (Q U b.me) (D p1 q1 s1) (D p2 q2 s2) (D p3 q3 s3) (D p4 q4 s4) (D p5 q5 s5));have F2:=J (bs.box V2.out (by omega));have F3:=J (bs.box V3.out (by omega));have SZ:=J (show w3.heap.size<=(iI w6 w.heap.size (Q U b.me) (D p1 q1 s1) (D p2 q2 s2) (D p3 q3 s3) (D p4 q4 s4) (D p5 q5 s5)).heap.size by have:=hb6.size; have:=U0.out; simp; omega);clear V1 V2 V3 cp hb6 bs T1 T2 T3 OC BW;go_upto_region 9 with fail;clear x0 x1 x2 x3 x4 x5 xf0 xf1 R7 R8 IL R9 xlt;unfold iI at FB FC FL F2 F3 SZ FO;generalize ((((((w6).setCell ⟨w.heap.size,0,ah⟩ (Q U b.me)).setCell ⟨w.heap.size,1,ah⟩ (D p1 q1 s1)).setCell ⟨w.heap.size,2,ah⟩ (D p2 q2 s2)).setCell ⟨w.heap.size,3,ah⟩ (D p3 q3 s3)).setCell ⟨w.heap.size,4,ah⟩ (D p4 q4 s4)).setCell ⟨w.heap.size,5,ah⟩ (D p5 q5 s5)=w7 at *;obtain⟨le,hle1,hle2⟩:=FC.out.ent;have wG:=J hle1;have HL2:=J hle2;clear hle1 hle2;have nb:=iM w7 (aC #[Q U y1,Q U y2,Q U y3,Q U y4,D u1 u2 u3,Q U y6,ak (!cv)] 67);have bx:=dK w7 #[Q U y1,Q U y2,Q U y3,Q U y4,D u1 u2 u3,Q U y6,ak (!cv)] 67;have IN:=J (sS w3.heap.size (D p4 q4 s4) le k (y1,y2,y3,y4,(u1,u2,u3),y6,(!cv)) w7.heap.size _ (Bk.dI wG.out nb) bx (fun e=>by
      obtain⟨d,hd⟩:=gI wG.out _ e;have:=hd.lt;omega) (by rw [HL2.out.len]; exact KL.out) (by rw [HL2.out.len]; exact HF.out.ent) (aS SZ.out nb.size))
     have U2:=J (FB.out.on nb);have Sd:=J (F2.out.on nb);have U5:=J (F3.out.on nb);have U6:=J (Bk.dI FO.out nb);have U7:=J (FC.out.grow nb);have U8:=J (FL.out.trans (nb.mono FL.out.size));have HA2:=J (HL2.out.mono fun _ _ q=>q.grow nb);have Lh:=J (gI (Bk.dI wG.out nb));have x4:=FB.out.cell 4;simp only [O,K,L] at x4;obtain⟨d0,d1,d2,d3,d4,d5,d6⟩:=F2.out.zT;clear nb bx;go_wp2_with fail;refine IN.out.mono ?_;rintro e8 w8 ⟨v8,rfl,hown,hbel,hoth⟩;clear x4;clear d0 d1 d2 d3 d4 d5 d6;generalize w7.alloc (aC #[Q U y1,Q U y2,Q U y3,Q U y4,D u1 u2 u3,Q U y6,ak (!cv)] 67)=Yq at *;obtain⟨t1,t2,Yr⟩:=(Row.dB hown).len;subst Yr;generalize (le.take k++(y1,y2,y3,y4,(u1,u2,u3),y6,(!cv))::le.drop k).length=tn at *;have hoff:Off (D p4 q4 s4).ownBlock Yq w8:=⟨hoth,hbel.size⟩;have CP:=J (U7.out.NU (ev':=(t1,tn,t2)) (el:=eZ b.ent k { e with up:=(!cv) }) hoff ⟨eZ le k (y1,y2,y3,y4,(u1,u2,u3),y6,(!cv)),by unfold eZ; rw [aH]; exact hown,qF (HA2.out.mono fun _ _ q=>q.off hoff Lh.out (by decide)) k ⟨EE.out.1,EE.out.2.1,EE.out.2.2.1,rfl,aI (hoff.own U6.out Lh.out (by decide))⟩⟩);have G1:=hoff.box U2.out Lh.out (by decide);have G3:=hoff.box U5.out Lh.out (by decide);have G2:=J (show dx w8 (w.heap.size+1) #[Q U y1,Q U y2,Q U y3,Q U y4,D u1 u2 u3,Q U y6,ak (!cv)] 67 from (hoth _ Sd.out.lt (fun e=>by
      have:=zC wG.out _ e.symm;have:=L4.out;omega)).trans Sd.out)
     have NC:=J (show dx (w8.setCell ⟨w.heap.size,4,ah⟩ (D t1 tn t2)) w.heap.size #[Q U b.me,D p1 q1 s1,D p2 q2 s2,D p3 q3 s3,D t1 tn t2,D p5 q5 s5] 30 by simpa using dY (k:=4) G1 (D t1 tn t2));have MC:=J (CP.out.but (dM w8 w.heap.size 4 (D t1 tn t2)) G1);have M3:=J ((dM w8 w.heap.size 4 (D t1 tn t2)).box G3 (by omega));have M2:=J ((dM w8 w.heap.size 4 (D t1 tn t2)).box G2.out (by omega));have ML:=J (show Below w.heap.size w (w8.setCell ⟨w.heap.size,4,ah⟩ (D t1 tn t2)) from (U8.out.trans (hbel.mono (by have:=L4.out; omega))).setCell (p:=⟨w.heap.size,4,ah⟩) (aO _) _);have x4:=G1.cell 4;have IL:=G1.fr 4;have xlt:=G1.lt;simp only [O,K,L] at x4;clear hown hbel hoth hoff G1 G2 G3 CP FB U2 FC U7 FO U6 F2 Sd F3 U5 FL U8 wG HL2 HA2 Lh IN SZ;go_upto_region 10 with fail;clear x4 IL xlt;generalize w8.setCell ⟨w.heap.size,4,ah⟩ (D t1 tn t2)=w9 at *;have Q1:=NC.out;have Q2:=M2.out;have Q3:=M3.out;obtain⟨x0,x1,x2,x3,x4,x5⟩:=Q1.gQ;have d6:=Q2.cell 6;simp only [O,K,L] at d6;obtain⟨z0,z1,z2,z3,z4,z5⟩:=Q3.gQ;obtain⟨Js,Jt,Ju,Jv,Jw,Jy⟩:=Q3.nS;have Jz:=Q3.lt;have FB:=J ((dP Q3 (Q U b.me) (D p1 q1 s1) (D p2 q2 s2) (D p3 q3 s3) (D t1 tn t2) (D p5 q5 s5)).on (Below.refl _ _).drew);have FC:=J ((MC.out.but (dW w9 (w.heap.size+1+1) (Q U b.me) (D p1 q1 s1) (D p2 q2 s2) (D p3 q3 s3) (D t1 tn t2) (D p5 q5 s5)) Q3).grow (Below.refl _ _).drew);have FL:=J (dD (b:=w.heap.size+1+1) ML.out (by omega) (Q U b.me) (D p1 q1 s1) (D p2 q2 s2) (D p3 q3 s3) (D t1 tn t2) (D p5 q5 s5)).drew;clear Q1 Q2 Q3 NC MC M2 M3 ML;go_wp2
     go_region
     all_goals simp only [Exit.then]
     all_goals apply_assumption
     all_goals
      clear x0 x1 x2 x3 x4 x5;clear z0 z1 z2 z3 z4 z5 Js Jt Ju Jv Jw Jy Jz;clear d6;unfold iI at FB FC FL;generalize (((((((w9).setCell ⟨w.heap.size+1+1,0,ah⟩ (Q U b.me)).setCell ⟨w.heap.size+1+1,1,ah⟩ (D p1 q1 s1)).setCell ⟨w.heap.size+1+1,2,ah⟩ (D p2 q2 s2)).setCell ⟨w.heap.size+1+1,3,ah⟩ (D p3 q3 s3)).setCell ⟨w.heap.size+1+1,4,ah⟩ (D t1 tn t2)).setCell ⟨w.heap.size+1+1,5,ah⟩ (D p5 q5 s5)).drew=wz at *;obtain⟨v0,v1,v2,v3,v4,v5⟩:=FB.out.gQ;go_wp2;refine bodyPost_ret (v:=.tuple #[aX #[Q U b.me,D p1 q1 s1,D p2 q2 s2,D p3 q3 s3,D t1 tn t2,D p5 q5 s5],ak (!cv)]) (by simp [results,aB,go_sem,v0,v1,v2,v3,v4,v5]) rfl ?_;rw [LQ.out];exact⟨⟨(p1,q1,s1),(p2,q2,s2),(p3,q3,s3),(t1,tn,t2),(p5,q5,s5),rfl,FC.out.TM,fun _=>⟨_,FC.out.near⟩,fun _=>⟨_,_,FC.out⟩,aI ⟨_,_,Yp.out,FC.out⟩⟩,FL.out⟩
    ·have LQ:=J (show iA b e=(b,aj) from by
      rw [<- nH HR.out];unfold zG;obtain⟨a,h0,h1⟩:∃ a,fH b.dG e.tree=aA a/\r4=a.par:=by
       rw [ET.out];rcases HI.out with⟨h,_⟩|⟨_,h⟩
       ·cases h
       ·exact h
      rw [h0];simp only;rw [if_neg (by rw [ET.out,ES.out,TH.out]; simp),if_pos ?_];refine⟨?_,?_⟩
      ·rw [EF.out,<- h1];have:=FQ.out;simpa using this
      ·rw [<- h1];have:=RT.out;simpa using this)
     have Q1:=T1.out;have Q3:=T3.out;obtain⟨x0,x1,x2,x3,x4,x5⟩:=Q1.gQ;obtain⟨z0,z1,z2,z3,z4,z5⟩:=Q3.gQ;obtain⟨Js,Jt,Ju,Jv,Jw,Jy⟩:=Q3.nS;have Jz:=Q3.lt;have FB:=J (dP Q3 (Q U b.me) (D no nn nc) (D ao an ac) (D so sn sc) (D eo en ec) (D oo kg oc));have FL:=J (dD (b:=w.heap.size+1+1) BW.out (by omega) (Q U b.me) (D no nn nc) (D ao an ac) (D so sn sc) (D eo en ec) (D oo kg oc));clear Q1 Q3;go_wp2_with fail;clear z0 z1 z2 z3 z4 z5;obtain⟨v0,v1,v2,v3,v4,v5⟩:=FB.out.gQ;refine bodyPost_ret (v:=.tuple #[aX #[Q U b.me,D no nn nc,D ao an ac,D so sn sc,D eo en ec,D oo kg oc],ak aj]) (by simp [results,aB,go_sem,v0,v1,v2,v3,v4,v5]) rfl ?_;rw [LQ.out];exact⟨⟨(no,nn,nc),(ao,an,ac),(so,sn,sc),(eo,en,ec),(oo,kg,oc),rfl,HH.out.on FL.out,fun h=>h.on FL.out,fun h=>(h.resolve_right (by simp)).on FL.out,aN rfl⟩,FL.out⟩
   ·cases fq
    all_goals
     have x1:=T2.out.cell 1;have x0:=T2.out.cell 0;have x2:=T2.out.cell 2;have x3:=T2.out.cell 3;have x4:=T2.out.cell 4;have x6:=T2.out.cell 6;simp only [O,K,L] at x0 x1 x2 x3 x4 x6;have PE:=J (show gq w3 (D yo yn yc) e.p from (EE.out.2.2.2.2).on BW.out);have Yp:=J (show w.heap.size<=w3.heap.size from BW.out.size);have CP:=J (tT (y1,y2,y3,y4,(yo,yn,yc),y6,y7) e.p w3 PE.out (gM OE.out));go_wp2_with fail;refine CP.out.mono ?_;rintro e4 R6 ⟨⟨⟨u1,u2,u3⟩,rfl,ho⟩,hb⟩;clear x0 x1 x2 x3 x4 x6;clear a3 d5;have V2:=T2.out.on hb;obtain⟨x0,x1,x2,x3,x4,x5,x6⟩:=V2.zT;obtain⟨xf0,xf1,R7,R8,IL,R9,Sc⟩:=V2.Tv;have xlt:=V2.lt;have bs:=Ba R6 (w.heap.size+1) (Q U y1) (Q U y2) (Q U y3) (Q U y4) (D u1 u2 u3) (Q U y6) (ak y7);have E2:=J (oF V2 (Q U y1) (Q U y2) (Q U y3) (Q U y4) (D u1 u2 u3) (Q U y6) (ak y7));have E1:=J (bs.box (T1.out.on hb) (by omega));have E3:=J (bs.box (T3.out.on hb) (by omega));have EO:=J (bs.own ho V2 (by decide));have EL:=J (kS (b:=w.heap.size+1) (BW.out.trans (hb.mono BW.out.size)) (by omega) (Q U y1) (Q U y2) (Q U y3) (Q U y4) (D u1 u2 u3) (Q U y6) (ak y7));have Oo:=J (show w3.heap.size<=(AY R6 (w.heap.size+1) (Q U y1) (Q U y2) (Q U y3) (Q U y4) (D u1 u2 u3) (Q U y6) (ak y7)).heap.size by have:=hb.size; simp; omega);have L4:=J (show w.heap.size+1+1<w3.heap.size from T3.out.lt);clear V2 ho hb CP T1 T2 T3 BW bs;go_upto_region 7 with fail;clear x0 x1 x2 x3 x4 x5 x6 xf0 xf1 R7 R8 IL R9 Sc xlt;unfold AY at E2 E1 E3 EO EL Oo;generalize (((((((R6).setCell ⟨w.heap.size+1,0,ah⟩ (Q U y1)).setCell ⟨w.heap.size+1,1,ah⟩ (Q U y2)).setCell ⟨w.heap.size+1,2,ah⟩ (Q U y3)).setCell ⟨w.heap.size+1,3,ah⟩ (Q U y4)).setCell ⟨w.heap.size+1,4,ah⟩ (D u1 u2 u3)).setCell ⟨w.heap.size+1,5,ah⟩ (Q U y6)).setCell ⟨w.heap.size+1,6,ah⟩ (ak y7)=TS at *;have x6:=E2.out.cell 6;have Sc:=E2.out.fr 6;have xlt:=E2.out.lt;simp only [O,K,L] at x6;have bs:=dM TS (w.heap.size+1) 6 (ak aj);have T2:=J (show dx (TS.setCell ⟨w.heap.size+1,6,ah⟩ (ak aj)) (w.heap.size+1) #[Q U y1,Q U y2,Q U y3,Q U y4,D u1 u2 u3,Q U y6,ak aj] 67 by simpa using dY (k:=6) E2.out (ak aj));have T1:=J (bs.box E1.out (by omega));have T3:=J (bs.box E3.out (by omega));have OC:=J (bs.own EO.out E2.out (by decide));have BW:=J (EL.out.setCell (p:=⟨w.heap.size+1,6,ah⟩) (by simp) (ak aj));have U0:=J (show w3.heap.size<=(TS.setCell ⟨w.heap.size+1,6,ah⟩ (ak aj)).heap.size by have:=Oo.out; simp; omega);clear bs E1 E2 E3 EO EL Oo;go_upto_region 8 with fail;clear x6 Sc xlt;generalize TS.setCell ⟨w.heap.size+1,6,ah⟩ (ak aj)=w5 at *;have LQ:=J (show iA b e=({ b with ent:=eZ b.ent k { e with up:=aj } },aj) from by
      rw [<- nH HR.out];unfold zG;obtain⟨a,h0,h1⟩:∃ a,fH b.dG e.tree=aA a/\r4=a.par:=by
       rw [ET.out];rcases HI.out with⟨h,_⟩|⟨_,h⟩
       ·cases h
       ·exact h
      rw [h0];simp only;rw [if_neg (by rw [ET.out,ES.out,TH.out]; simp),if_neg ?_,show dR (b.ent.map dF) (e.tree,e.sub)=k by rw [ET.out,ES.out]; exact HK.out,<- h1,RT.out]
      ·rfl
      ·rintro⟨_,g⟩;rw [<- h1] at g;have:=RT.out;simp at this;exact g this)
     have Q1:=T1.out;obtain⟨x0,x1,x2,x3,x4,x5⟩:=Q1.gQ;clear Q1;go_wp2_with fail;refine (kH b (no,nn,nc) (ao,an,ac) (so,sn,sc) (eo,en,ec) (oo,kg,oc) w w5 BW.out HH.out HF.out HP.out).mono ?_;rintro e6 w6 ⟨⟨⟨p1,q1,s1⟩,⟨p2,q2,s2⟩,⟨p3,q3,s3⟩,⟨p4,q4,s4⟩,⟨p5,q5,s5⟩,rfl,cp⟩,hb6⟩;clear x0 x1 x2 x3 x4 x5;have V1:=T1.out.on hb6;have V2:=J (T2.out.on hb6);have V3:=J (T3.out.on hb6);obtain⟨x0,x1,x2,x3,x4,x5⟩:=V1.gQ;obtain⟨xf0,xf1,R7,R8,IL,R9⟩:=V1.nS;have xlt:=V1.lt;have bs:=dW w6 w.heap.size (Q U b.me) (D p1 q1 s1) (D p2 q2 s2) (D p3 q3 s3) (D p4 q4 s4) (D p5 q5 s5);have FB:=J (dP V1 (Q U b.me) (D p1 q1 s1) (D p2 q2 s2) (D p3 q3 s3) (D p4 q4 s4) (D p5 q5 s5));have FC:=J (Sb.Cp.less (cp.but bs V1) (show w3.heap.size<=w5.heap.size from U0.out));have FO:=J (bs.own (Bk.dI OC.out hb6) V1 (by decide));have FL:=J (dD (b:=w.heap.size) (BW.out.trans (hb6.mono BW.out.size)) (aO _) (Q U b.me) (D p1 q1 s1) (D p2 q2 s2) (D p3 q3 s3) (D p4 q4 s4) (D p5 q5 s5));have F2:=J (bs.box V2.out (by omega));have F3:=J (bs.box V3.out (by omega));have SZ:=J (show w3.heap.size<=(iI w6 w.heap.size (Q U b.me) (D p1 q1 s1) (D p2 q2 s2) (D p3 q3 s3) (D p4 q4 s4) (D p5 q5 s5)).heap.size by have:=hb6.size; have:=U0.out; simp; omega);clear V1 V2 V3 cp hb6 bs T1 T2 T3 OC BW;go_upto_region 9 with fail;clear x0 x1 x2 x3 x4 x5 xf0 xf1 R7 R8 IL R9 xlt;unfold iI at FB FC FL F2 F3 SZ FO;generalize ((((((w6).setCell ⟨w.heap.size,0,ah⟩ (Q U b.me)).setCell ⟨w.heap.size,1,ah⟩ (D p1 q1 s1)).setCell ⟨w.heap.size,2,ah⟩ (D p2 q2 s2)).setCell ⟨w.heap.size,3,ah⟩ (D p3 q3 s3)).setCell ⟨w.heap.size,4,ah⟩ (D p4 q4 s4)).setCell ⟨w.heap.size,5,ah⟩ (D p5 q5 s5)=w7 at *;obtain⟨le,hle1,hle2⟩:=FC.out.ent;have wG:=J hle1;have HL2:=J hle2;clear hle1 hle2;have nb:=iM w7 (aC #[Q U y1,Q U y2,Q U y3,Q U y4,D u1 u2 u3,Q U y6,ak aj] 67);have bx:=dK w7 #[Q U y1,Q U y2,Q U y3,Q U y4,D u1 u2 u3,Q U y6,ak aj] 67;have IN:=J (sS w3.heap.size (D p4 q4 s4) le k (y1,y2,y3,y4,(u1,u2,u3),y6,aj) w7.heap.size _ (Bk.dI wG.out nb) bx (fun e=>by
      obtain⟨d,hd⟩:=gI wG.out _ e;have:=hd.lt;omega) (by rw [HL2.out.len]; exact KL.out) (by rw [HL2.out.len]; exact HF.out.ent) (aS SZ.out nb.size))
     have U2:=J (FB.out.on nb);have Sd:=J (F2.out.on nb);have U5:=J (F3.out.on nb);have U6:=J (Bk.dI FO.out nb);have U7:=J (FC.out.grow nb);have U8:=J (FL.out.trans (nb.mono FL.out.size));have HA2:=J (HL2.out.mono fun _ _ q=>q.grow nb);have Lh:=J (gI (Bk.dI wG.out nb));have x4:=FB.out.cell 4;simp only [O,K,L] at x4;obtain⟨d0,d1,d2,d3,d4,d5,d6⟩:=F2.out.zT;clear nb bx;go_wp2_with fail;refine IN.out.mono ?_;rintro e8 w8 ⟨v8,rfl,hown,hbel,hoth⟩;clear x4;clear d0 d1 d2 d3 d4 d5 d6;generalize w7.alloc (aC #[Q U y1,Q U y2,Q U y3,Q U y4,D u1 u2 u3,Q U y6,ak aj] 67)=Yq at *;obtain⟨t1,t2,Yr⟩:=(Row.dB hown).len;subst Yr;generalize (le.take k++(y1,y2,y3,y4,(u1,u2,u3),y6,aj)::le.drop k).length=tn at *;have hoff:Off (D p4 q4 s4).ownBlock Yq w8:=⟨hoth,hbel.size⟩;have CP:=J (U7.out.NU (ev':=(t1,tn,t2)) (el:=eZ b.ent k { e with up:=aj }) hoff ⟨eZ le k (y1,y2,y3,y4,(u1,u2,u3),y6,aj),by unfold eZ; rw [aH]; exact hown,qF (HA2.out.mono fun _ _ q=>q.off hoff Lh.out (by decide)) k ⟨EE.out.1,EE.out.2.1,EE.out.2.2.1,rfl,aI (hoff.own U6.out Lh.out (by decide))⟩⟩);have G1:=hoff.box U2.out Lh.out (by decide);have G3:=hoff.box U5.out Lh.out (by decide);have G2:=J (show dx w8 (w.heap.size+1) #[Q U y1,Q U y2,Q U y3,Q U y4,D u1 u2 u3,Q U y6,ak aj] 67 from (hoth _ Sd.out.lt (fun e=>by
      have:=zC wG.out _ e.symm;have:=L4.out;omega)).trans Sd.out)
     have NC:=J (show dx (w8.setCell ⟨w.heap.size,4,ah⟩ (D t1 tn t2)) w.heap.size #[Q U b.me,D p1 q1 s1,D p2 q2 s2,D p3 q3 s3,D t1 tn t2,D p5 q5 s5] 30 by simpa using dY (k:=4) G1 (D t1 tn t2));have MC:=J (CP.out.but (dM w8 w.heap.size 4 (D t1 tn t2)) G1);have M3:=J ((dM w8 w.heap.size 4 (D t1 tn t2)).box G3 (by omega));have M2:=J ((dM w8 w.heap.size 4 (D t1 tn t2)).box G2.out (by omega));have ML:=J (show Below w.heap.size w (w8.setCell ⟨w.heap.size,4,ah⟩ (D t1 tn t2)) from (U8.out.trans (hbel.mono (by have:=L4.out; omega))).setCell (p:=⟨w.heap.size,4,ah⟩) (aO _) _);have x4:=G1.cell 4;have IL:=G1.fr 4;have xlt:=G1.lt;simp only [O,K,L] at x4;clear hown hbel hoth hoff G1 G2 G3 CP FB U2 FC U7 FO U6 F2 Sd F3 U5 FL U8 wG HL2 HA2 Lh IN SZ;go_upto_region 10 with fail;clear x4 IL xlt;generalize w8.setCell ⟨w.heap.size,4,ah⟩ (D t1 tn t2)=w9 at *;have Q1:=NC.out;have Q2:=M2.out;have Q3:=M3.out;obtain⟨x0,x1,x2,x3,x4,x5⟩:=Q1.gQ;have d6:=Q2.cell 6;simp only [O,K,L] at d6;obtain⟨z0,z1,z2,z3,z4,z5⟩:=Q3.gQ;obtain⟨Js,Jt,Ju,Jv,Jw,Jy⟩:=Q3.nS;have Jz:=Q3.lt;have FB:=J ((dP Q3 (Q U b.me) (D p1 q1 s1) (D p2 q2 s2) (D p3 q3 s3) (D t1 tn t2) (D p5 q5 s5)).on (Below.refl _ _).drew);have FC:=J ((MC.out.but (dW w9 (w.heap.size+1+1) (Q U b.me) (D p1 q1 s1) (D p2 q2 s2) (D p3 q3 s3) (D t1 tn t2) (D p5 q5 s5)) Q3).grow (Below.refl _ _).drew);have FL:=J (dD (b:=w.heap.size+1+1) ML.out (by omega) (Q U b.me) (D p1 q1 s1) (D p2 q2 s2) (D p3 q3 s3) (D t1 tn t2) (D p5 q5 s5)).drew;clear Q1 Q2 Q3 NC MC M2 M3 ML;go_wp2
     go_region
     all_goals simp only [Exit.then]
     all_goals apply_assumption
     all_goals
      clear x0 x1 x2 x3 x4 x5;clear z0 z1 z2 z3 z4 z5 Js Jt Ju Jv Jw Jy Jz;clear d6;unfold iI at FB FC FL;generalize (((((((w9).setCell ⟨w.heap.size+1+1,0,ah⟩ (Q U b.me)).setCell ⟨w.heap.size+1+1,1,ah⟩ (D p1 q1 s1)).setCell ⟨w.heap.size+1+1,2,ah⟩ (D p2 q2 s2)).setCell ⟨w.heap.size+1+1,3,ah⟩ (D p3 q3 s3)).setCell ⟨w.heap.size+1+1,4,ah⟩ (D t1 tn t2)).setCell ⟨w.heap.size+1+1,5,ah⟩ (D p5 q5 s5)).drew=wz at *;obtain⟨v0,v1,v2,v3,v4,v5⟩:=FB.out.gQ;go_wp2;refine bodyPost_ret (v:=.tuple #[aX #[Q U b.me,D p1 q1 s1,D p2 q2 s2,D p3 q3 s3,D t1 tn t2,D p5 q5 s5],ak aj]) (by simp [results,aB,go_sem,v0,v1,v2,v3,v4,v5]) rfl ?_;rw [LQ.out];exact⟨⟨(p1,q1,s1),(p2,q2,s2),(p3,q3,s3),(t1,tn,t2),(p5,q5,s5),rfl,FC.out.TM,fun _=>⟨_,FC.out.near⟩,fun _=>⟨_,_,FC.out⟩,aI ⟨_,_,Yp.out,FC.out⟩⟩,FL.out⟩
  ·have LQ:=J (show iA b e=(b,aj) from by
    rw [<- nH HR.out];unfold zG;obtain⟨a,h0,h1⟩:∃ a,fH b.dG e.tree=aA a/\r4=a.par:=by
     rw [ET.out];rcases HI.out with⟨h,_⟩|⟨_,h⟩
     ·cases h
     ·exact h
    rw [h0];simp only;rw [if_pos (by rw [ET.out,ES.out,TH.out])])
   have Q1:=T1.out;have Q3:=T3.out;obtain⟨x0,x1,x2,x3,x4,x5⟩:=Q1.gQ;obtain⟨z0,z1,z2,z3,z4,z5⟩:=Q3.gQ;obtain⟨Js,Jt,Ju,Jv,Jw,Jy⟩:=Q3.nS;have Jz:=Q3.lt;have FB:=J (dP Q3 (Q U b.me) (D no nn nc) (D ao an ac) (D so sn sc) (D eo en ec) (D oo kg oc));have FL:=J (dD (b:=w.heap.size+1+1) BW.out (by omega) (Q U b.me) (D no nn nc) (D ao an ac) (D so sn sc) (D eo en ec) (D oo kg oc));clear Q1 Q3;go_wp2_with fail;clear z0 z1 z2 z3 z4 z5;obtain⟨v0,v1,v2,v3,v4,v5⟩:=FB.out.gQ;refine bodyPost_ret (v:=.tuple #[aX #[Q U b.me,D no nn nc,D ao an ac,D so sn sc,D eo en ec,D oo kg oc],ak aj]) (by simp [results,aB,go_sem,v0,v1,v2,v3,v4,v5]) rfl ?_;rw [LQ.out];exact⟨⟨(no,nn,nc),(ao,an,ac),(so,sn,sc),(eo,en,ec),(oo,kg,oc),rfl,HH.out.on FL.out,fun h=>h.on FL.out,fun h=>(h.resolve_right (by simp)).on FL.out,aN rfl⟩,FL.out⟩
theorem Li (b:Br) (e:En) (nv av sv ev ov:Sl) (x:iT) (w:aF) (h:lW w b nv av sv ev ov) (he:lH w x e) (hf:zh b) (hp:mE b) (hr:fV b.ent) (hok:∀ e∈b.ent,dU e.p) (hoe:dU e.p) :
  Calls aW 114 #[nO b.me nv av sv ev ov,tF x] w (qI w (iP w nv b.near) (jf w b nv av sv ev ov) (iA b e)) :=
 (IK b e nv av sv ev ov x w h he hf hp hr hok hoe).mono fun _ _ h=>h.two
theorem o7 {α:Type} (l:List α) (k:Nat):(cutAt l k).Sublist l:=by
 unfold cutAt
 conv=>rhs; rw [<- List.take_append_drop k l]
 exact (List.Sublist.refl _).append (List.drop_sublist_drop_left l (Nat.le_succ k))
theorem oU {α:Type} {l:List α} {k:Nat} {x:α} (h:x∈cutAt l k):x∈l:=(o7 l k).subset h
def yt (b:Br) (t s:dO) (f:Int):Br×List En×Bool:=match qO b.ent t s with
 | none=>(b,[],aj)
 | some e=>if e.from_≠f then (b,[],aj) else if e.up=aj then ({ b with ent:=cutAt b.ent (dR (b.ent.map dF) (t,s)) },[],aj) else
  ({ b with ent:=(cutAt b.ent (dR (b.ent.map dF) (t,s))).take (gy (cutAt b.ent (dR (b.ent.map dF) (t,s))) t)++(fI (jW (cutAt b.ent (dR (b.ent.map dF) (t,s))) t) (jW (cutAt b.ent (dR (b.ent.map dF) (t,s))) t).length).1++(cutAt b.ent (dR (b.ent.map dF) (t,s))).drop (gy (cutAt b.ent (dR (b.ent.map dF) (t,s))) t+(jW (cutAt b.ent (dR (b.ent.map dF) (t,s))) t).length) },(fI (jW (cutAt b.ent (dR (b.ent.map dF) (t,s))) t) (jW (cutAt b.ent (dR (b.ent.map dF) (t,s))) t).length).2,aR)
theorem Oq {m:List En} (hr:fV m) (t:dO):gJ t m m.length=(m.take (gy m t)++(fI (jW m t) (jW m t).length).1++m.drop (gy m t+(jW m t).length),(fI (jW m t) (jW m t).length).2):=by
 obtain⟨c,h1,h0,h2,h3,h4⟩:=Bg hr t;have h:=DJ h2 h3 h4;rw [<- h1] at h;rw [h];have e:m.drop (gy m t+(jW m t).length)=c:=by
  conv=>lhs; arg 2; rw [h1]
  rw [List.drop_left' (by rw [List.length_append,h0])]
 rw [e]
theorem qP {b:Br} (hr:fV b.ent) {t s:dO} {f:Int}:yt b t s f=takeB b t s f:=by
 unfold yt takeB;have ft:=nG hr t s;rw [ft];cases ht:gW b.ent t s with
 | false =>
  rw [vg ht];simp only [Bool.false_eq_true,if_false];cases b.ent[(-1:Int).toNat]? <;> rfl
 | true =>
  obtain⟨e,h1,h2,h3⟩:=mH ht;rw [h3];simp only [if_true];rw [Int.toNat_natCast,h1];simp only;rw [if_neg (show ¬ ((dR (b.ent.map dF) (t,s):Int)=-1) by omega)];have hr2:fV (cutAt b.ent (dR (b.ent.map dF) (t,s))):=hr.sublist (o7 _ _);generalize cutAt b.ent (dR (b.ent.map dF) (t,s))=m at *;rw [Oq hr2]
theorem nC.less {w0 wr:aF} {B B':Nat} {x:iT} {e:En} (h:nC w0 B wr x e) (hB:B'<=B):nC w0 B' wr x e:=⟨h.1,h.2.1,h.2.2.1,h.2.2.2.1,h.2.2.2.2.imp id fun h=>dH h hB⟩
def Sg (w:aF) (P R:Prop) (r:Br×List En×Bool) (e:Ending) (w':aF):Prop:=(∃ (nv av sv ev ov uv:Sl) (lu:List iT),e=.returned (.tuple #[nO r.1.me nv av sv ev ov,dN uv,ak r.2.2])/\lW w' r.1 nv av sv ev ov/\nk w' (dN uv) lu/\eG (lH w') lu r.2.1/\(P->iP w' nv r.1.near)/\(R\/r.2.2=aR->jf w' r.1 nv av sv ev ov)/\jy w' w.heap.size (dN uv) lu/\∃ V:aF,eG (nC (vw V) w.heap.size w') lu r.2.1)/\Below w.heap.size w w'
theorem IQ (b:Br) (nv av sv ev ov:Sl) (t s:dO) (f:Int) (w:aF) (h:lW w b nv av sv ev ov) (hf:zh b) (hp:mE b) (hr:fV b.ent) (hok:∀ e∈b.ent,dU e.p) :
  Calls aW 117 #[nO b.me nv av sv ev ov,pK t,pK s,Q U f] w (Sg w (iP w nv b.near) (jf w b nv av sv ev ov) (takeB b t s f)):=by
 obtain⟨no,nn,nc⟩:=nv;obtain⟨ao,an,ac⟩:=av;obtain⟨so,sn,sc⟩:=sv;obtain⟨eo,en,ec⟩:=ev;obtain⟨oo,kg,oc⟩:=ov;obtain⟨c,d⟩:=t;obtain⟨g0,h0⟩:=s;obtain⟨n0,X,Y,Z,V⟩:=uR w #[Q U b.me,D no nn nc,D ao an ac,D so sn sc,D eo en ec,D oo kg oc] #[Q U c,Q U d] #[Q U g0,Q U h0] #[Q U 0,D ah 0 0,D ah 0 0,D ah 0 0,D ah 0 0,D ah 0 0] 30 23 23 30;have BB:=J n0;have X1:=J X;have X2:=J Y;have X4:=J V;have HH:=J h;have HF:=J hf;have HP:=J hp;have HR:=J hr;have OK:=J hok;have x4:=X.cell 4;simp only [O,K,L] at x4;obtain⟨y0,y1⟩:=Y.cs2;obtain⟨z0,z1⟩:=Z.cs2;obtain⟨Xr,hs1,hs2⟩:=h.ent;have ZV:=J (hs1.on n0);have Yt:=J (hs2.mono fun _ _ q=>q.on n0);have PL:=J (rZ (eo,en,ec) Xr b.ent (c,d) (g0,h0) _ ZV.out Yt.out hr (by rw [hs2.len]; have:=hf.ent; omega));have hn:=gL hs1;have HN:=J hn;obtain⟨k,hk⟩:∃ k,dR (b.ent.map dF) ((c,d),(g0,h0))=k:=⟨_,rfl⟩;obtain⟨th,hth⟩:∃ k,gW b.ent (c,d) (g0,h0)=k:=⟨_,rfl⟩;rw [hk,hth] at PL;have HK:=J hk;clear n0 X Y Z V h hf hp hr hok hs1 hs2 hn hk;go_enter Tryz.func117,Tryz.ntmps117;go_wp2_with fail;generalize (((w.alloc (aC #[Q U b.me,D no nn nc,D ao an ac,D so sn sc,D eo en ec,D oo kg oc] 30)).alloc (aC #[Q U c,Q U d] 23)).alloc (aC #[Q U g0,Q U h0] 23)).alloc (aC #[Q U 0,D ah 0 0,D ah 0 0,D ah 0 0,D ah 0 0,D ah 0 0] 30)=W at *;refine PL.out.mono ?_;rintro e1 w1 ⟨rfl,hb⟩;have BW:=J (BB.out.trans (hb.mono BB.out.size));have T1:=J (X1.out.on hb);have T2:=J (X2.out.on hb);have T4:=J (X4.out.on hb);have HB:=J hb;clear x4 y0 y1 z0 z1 PL hb X1 X2 X4;cases th
 ·have LQ:=J (show takeB b (c,d) (g0,h0) f=(b,[],aj) from by
   rw [<- qP HR.out];unfold yt;rw [vg hth])
  have Q1:=T1.out;have Q3:=T4.out;obtain⟨x0,x1,x2,x3,x4,x5⟩:=Q1.gQ;obtain⟨z0,z1,z2,z3,z4,z5⟩:=Q3.gQ;obtain⟨Js,Jt,Ju,Jv,Jw,Jy⟩:=Q3.nS;have Jz:=Q3.lt;have FB:=J (dP Q3 (Q U b.me) (D no nn nc) (D ao an ac) (D so sn sc) (D eo en ec) (D oo kg oc));have FL:=J (dD (b:=w.heap.size+1+1+1) BW.out (by omega) (Q U b.me) (D no nn nc) (D ao an ac) (D so sn sc) (D eo en ec) (D oo kg oc));clear Q1 Q3;go_wp2_with fail;clear z0 z1 z2 z3 z4 z5;obtain⟨v0,v1,v2,v3,v4,v5⟩:=FB.out.gQ;refine bodyPost_ret (v:=.tuple #[aX #[Q U b.me,D no nn nc,D ao an ac,D so sn sc,D eo en ec,D oo kg oc],D ah 0 0,ak aj]) (by simp [results,aD,go_sem,v0,v1,v2,v3,v4,v5]) rfl ?_;rw [LQ.out];exact⟨⟨(no,nn,nc),(ao,an,ac),(so,sn,sc),(eo,en,ec),(oo,kg,oc),(ah,0,0),[],rfl,HH.out.on FL.out,ji _,.nil,fun h=>h.on FL.out,fun h=>(h.resolve_right (by simp)).on FL.out,iH _ _,w,.nil⟩,FL.out⟩
 ·obtain⟨e,he,hke,hfe⟩:=mH hth;rw [HK.out] at he;have hkm:=(ay.1 he).1;have hkn:k<en:=by rw [<- HN.out,Yt.out.len]; exact hkm
  obtain⟨y,hy,hx⟩:=Yt.out.at k e he;obtain⟨p,ix,px⟩:=Tx ZV.out rfl HN.out hy;obtain⟨i0,i1,i2,i3,i4,i5,i6⟩:=px w1 HB.out;obtain⟨y1,y2,y3,y4,⟨yo,yn,yc⟩,y6,y7⟩:=y;simp only at i0 i1 i2 i3 i4 i5 i6;have FE:=J hfe;have EF:=J (show e.from_=y6 from hx.2.2.1.symm);have EU:=J (show e.up=y7 from hx.2.2.2.1.symm);have x4:=T1.out.cell 4;simp only [O,K,L] at x4;clear px hy hx he hke hfe hth i0 i1 i2 i3 i4;by_cases TT:y6=f
  ·have hne:(y6 != f)=aj:=by simp [TT]
   have YF:=J TT;have ZW:=T1.out;clear TT x4;obtain⟨x0,x1,x2,x3,x4,x5⟩:=ZW.gQ;clear ZW;go_wp2_with fail;refine (kH b (no,nn,nc) (ao,an,ac) (so,sn,sc) (eo,en,ec) (oo,kg,oc) w w1 BW.out HH.out HF.out HP.out).mono ?_;rintro e2 w2 ⟨⟨⟨p1,q1,s1⟩,⟨p2,q2,s2⟩,⟨p3,q3,s3⟩,⟨p4,q4,s4⟩,⟨p5,q5,s5⟩,rfl,cp⟩,hb2⟩;clear x0 x1 x2 x3 x4 x5;clear ix i5 i6 hne;have V4:=T4.out.on hb2;obtain⟨z0,z1,z2,z3,z4,z5⟩:=V4.gQ;obtain⟨Js,Jt,Ju,Jv,Jw,Jy⟩:=V4.nS;have Jz:=V4.lt;have bs:=dW w2 (w.heap.size+1+1+1) (Q U b.me) (D p1 q1 s1) (D p2 q2 s2) (D p3 q3 s3) (D p4 q4 s4) (D p5 q5 s5);have FB:=J (dP V4 (Q U b.me) (D p1 q1 s1) (D p2 q2 s2) (D p3 q3 s3) (D p4 q4 s4) (D p5 q5 s5));have FC:=J (cp.but bs V4);have FL:=J (dD (b:=w.heap.size+1+1+1) (BW.out.trans (hb2.mono BW.out.size)) (by omega) (Q U b.me) (D p1 q1 s1) (D p2 q2 s2) (D p3 q3 s3) (D p4 q4 s4) (D p5 q5 s5));have F2:=J (bs.box (T2.out.on hb2) (by omega));have L1:=J (show w.heap.size+1+1+1<w1.heap.size from T4.out.lt);clear V4 bs cp hb2 T1 T2 T4 HB;go_upto_region 6 with fail;clear z0 z1 z2 z3 z4 z5 Js Jt Ju Jv Jw Jy Jz;unfold iI at FB FC FL F2;generalize ((((((w2).setCell ⟨w.heap.size+1+1+1,0,ah⟩ (Q U b.me)).setCell ⟨w.heap.size+1+1+1,1,ah⟩ (D p1 q1 s1)).setCell ⟨w.heap.size+1+1+1,2,ah⟩ (D p2 q2 s2)).setCell ⟨w.heap.size+1+1+1,3,ah⟩ (D p3 q3 s3)).setCell ⟨w.heap.size+1+1+1,4,ah⟩ (D p4 q4 s4)).setCell ⟨w.heap.size+1+1+1,5,ah⟩ (D p5 q5 s5)=w3 at *;obtain⟨le,hle1,hle2⟩:=FC.out.ent;have hq4:le.length=q4:=gL (Row.dB hle1);have hlm:le.length=b.ent.length:=hle2.len;obtain⟨g,rfl,hBg⟩:∃ g,p4=aA ⟨g,0,ah⟩/\w1.heap.size<=g:=oD hle1 (show 0<q4 by omega);have KQ:=J (show k<q4 by omega);have DE:=J (Om w1.heap.size g q4 s4 k le w3 hle1 (by omega) (by have:=HF.out.ent; omega));have wG:=J hle1;have HL2:=J hle2;have BG:=J hBg;have N9:=J (show q4<=900 by have:=HF.out.ent; omega);have x4:=FB.out.cell 4;simp only [O,K,L] at x4;have hw3:IntKind.i64.wrap ((k:Int)+1)=(k:Int)+1:=IntWalk.i64_in _ (by have:=HF.out.ent; omega);clear hle1 hle2 hq4 hlm hBg;go_wp2_with fail;refine DE.out.mono ?_;rintro e4 w4 ⟨rfl,hown,iR,hlow⟩;have hoff:Off (dN (aA ⟨g,0,ah⟩,q4,s4)).ownBlock w3 w4:=⟨fun j hj hne=>iR.1 j hj fun e=>hne (by rw [e]; rfl),iR.2⟩;have TG:=gI wG.out;have CP:=J (FC.out.NU (ev':=(aA ⟨g,0,ah⟩,q4-1,s4)) (el:=cutAt b.ent k) hoff ⟨cutAt le k,hown,(fun {h}=>((h:eG _ le b.ent).take k).append (h.drop (k+1))) (h:=HL2.out.mono fun _ _ q=>q.off hoff TG (by decide))⟩);have G8:=iR.box FB.out (show w.heap.size+1+1+1≠g by have:=BG.out; have:=L1.out; omega);have G2:=iR.box F2.out (show w.heap.size+1≠g by have:=BG.out; have:=L1.out; omega);have BL:=hlow w.heap.size w (by have:=BG.out; have:=L1.out; omega) FL.out;clear x4 hw3;have x4:=G8.cell 4;have IL:=G8.fr 4;have xlt:=G8.lt;simp only [O,K,L] at x4;have bs:=dM w4 (w.heap.size+1+1+1) 4 (D (aA ⟨g,0,ah⟩) (q4-1) s4);have Si:=J (CP.out.but bs G8);have ZX:=J (bs.box G2 (by omega));have PZ:=J (BL.setCell (p:=⟨w.heap.size+1+1+1,4,ah⟩) (show w.heap.size<=w.heap.size+1+1+1 by omega) (D (aA ⟨g,0,ah⟩) (q4-1) s4));have TU:=J (show dx (w4.setCell ⟨w.heap.size+1+1+1,4,ah⟩ (D (aA ⟨g,0,ah⟩) (q4-1) s4)) (w.heap.size+1+1+1) #[Q U b.me,D p1 q1 s1,D p2 q2 s2,D p3 q3 s3,D (aA ⟨g,0,ah⟩) (q4-1) s4,D p5 q5 s5] 30 by simpa using dY (k:=4) G8 (D (aA ⟨g,0,ah⟩) (q4-1) s4));have S5:=J (show w1.heap.size<=(w4.setCell ⟨w.heap.size+1+1+1,4,ah⟩ (D (aA ⟨g,0,ah⟩) (q4-1) s4)).heap.size by have:=iR.2; have h2:=FL.out.size; obtain⟨cur,hg⟩:=gX hown; have:=hg.lt; have:=BG.out; simp; omega);clear hown iR hlow hoff TG CP G8 G2 BL bs FB FC FL F2 wG HL2 DE le;go_upto_region 7 with fail;clear x4 IL xlt;generalize w4.setCell ⟨w.heap.size+1+1+1,4,ah⟩ (D (aA ⟨g,0,ah⟩) (q4-1) s4)=w5 at *;obtain⟨n4,Yu⟩:∃ n,n=q4-1:=⟨_,rfl⟩;rw [<- Yu] at TU Si ⊢;have NN:=J Yu;clear Yu;cases y7
   ·have LQ:=J (show takeB b (c,d) (g0,h0) f=({ b with ent:=cutAt b.ent k },[],aj) from by
     rw [<- qP HR.out];unfold yt;rw [FE.out];simp only;rw [if_neg (by rw [EF.out]; simpa using YF.out),if_pos EU.out,HK.out])
    have G8:=J TU.out;have BQ:=J PZ.out;clear TU PZ S5;generalize w5=wq at *;have Q3:=G8.out;obtain⟨z0,z1,z2,z3,z4,z5⟩:=Q3.gQ;obtain⟨Js,Jt,Ju,Jv,Jw,Jy⟩:=Q3.nS;have Jz:=Q3.lt;have bs:=dW wq (w.heap.size+1+1+1) (Q U b.me) (D p1 q1 s1) (D p2 q2 s2) (D p3 q3 s3) (D (aA ⟨g,0,ah⟩) n4 s4) (D p5 q5 s5);have FB:=J (dP Q3 (Q U b.me) (D p1 q1 s1) (D p2 q2 s2) (D p3 q3 s3) (D (aA ⟨g,0,ah⟩) n4 s4) (D p5 q5 s5));have FC:=J (Si.out.but bs Q3);have FL:=J (dD (b:=w.heap.size+1+1+1) BQ.out (by omega) (Q U b.me) (D p1 q1 s1) (D p2 q2 s2) (D p3 q3 s3) (D (aA ⟨g,0,ah⟩) n4 s4) (D p5 q5 s5));clear Q3 bs;go_wp2_with fail;clear z0 z1 z2 z3 z4 z5;obtain⟨v0,v1,v2,v3,v4,v5⟩:=FB.out.gQ;refine bodyPost_ret (v:=.tuple #[aX #[Q U b.me,D p1 q1 s1,D p2 q2 s2,D p3 q3 s3,D (aA ⟨g,0,ah⟩) n4 s4,D p5 q5 s5],D ah 0 0,ak aj]) (by simp [results,aD,go_sem,v0,v1,v2,v3,v4,v5]) rfl ?_;rw [LQ.out];exact⟨⟨(p1,q1,s1),(p2,q2,s2),(p3,q3,s3),(aA ⟨g,0,ah⟩,n4,s4),(p5,q5,s5),(ah,0,0),[],rfl,FC.out.TM,ji _,.nil,fun _=>⟨_,FC.out.near⟩,fun _=>⟨_,_,FC.out⟩,iH _ _,w,.nil⟩,FL.out⟩
   ·obtain⟨m,hm⟩:∃ m,cutAt b.ent k=m:=⟨_,rfl⟩;rw [hm] at Si;have RM:=J (show fV m by rw [<- hm]; exact HR.out.sublist (o7 _ _));have OM:=J (show ∀ e∈m,dU e.p by rw [<- hm]; exact fun e he=>OK.out e (oU he));have LQ:=J (show takeB b (c,d) (g0,h0) f=({ b with ent:=m.take (gy m (c,d))++(fI (jW m (c,d)) (jW m (c,d)).length).1++m.drop (gy m (c,d)+(jW m (c,d)).length) },(fI (jW m (c,d)) (jW m (c,d)).length).2,aR) from by
     rw [<- qP HR.out];unfold yt;rw [FE.out];simp only;rw [if_neg (by rw [EF.out]; simpa using YF.out),if_neg (by rw [EU.out]; simp),HK.out,hm])
    have LM:=J (show m.length=n4 by rw [<- hm]; obtain⟨l,h1,h2⟩:=Si.out.ent; rw [hm,<- h2.len]; exact gL (Row.dB h1));clear hm;obtain⟨l5,hl1,hl2⟩:=Si.out.ent
    replace hl2:eG (nC (vw w) w1.heap.size w5) l5 m:=hl2
    replace hl1:jy w5 w1.heap.size (D (aA ⟨g,0,ah⟩) n4 s4) l5:=hl1
    have hin:eG (lH w5) l5 m:=hl2.mono fun _ _ q=>vk q (uI PZ.out);have RI:=r9 m (c,d);have h9:=N9.out;have hnn:=NN.out;have hlm:=LM.out;have hll:l5.length=m.length:=hl2.len;have hcap:n4<=s4:=by
     rcases eT hl1 with⟨h1,_⟩|⟨g',cap',cur,h1,_,_,h4,_⟩
     ·cases h1
     ·obtain⟨_,_,rfl⟩:g=g'/\n4=l5.length/\s4=cap':=by simpa using h1
      omega
    have U9:=J (qh (aA ⟨g,0,ah⟩,n4,s4) l5 m (c,d) w5 (Row.dB hl1) hin RM.out (by omega));have eb:(m.drop (gy m (c,d))).take (jW m (c,d)).length=jW m (c,d):=by
     unfold jW
     conv=>lhs; arg 2; rw [<- List.takeWhile_append_dropWhile (p:=fun e:En=>decide (e.tree=(c,d))) (l:=m.drop (gy m (c,d)))]
     rw [List.take_left]
    have RA:=J (fun (w6:aF) (hb:Below w5.heap.size w5 w6) (ra:Option Addr) (rc:Nat) hra=>IB (vw w) w1.heap.size g n4 s4 (gy m (c,d)) (jW m (c,d)).length ra rc l5 m w6 (uI (PZ.out.trans (hb.mono PZ.out.size))) (Nat.zero_le _) (Bk.dI hl1 hb) (hl2.mono fun _ _ q=>q.grow hb) (by omega) (by omega) hra OM.out);rw [eb] at RA;generalize hf5:gy m (c,d)=f5 at *;generalize hb5:jW m (c,d)=bm at *;have HC:=J hcap;have HFK:=J RI;clear hl1 hl2 hin h9 hnn hlm hll RI eb hf5 hb5 hcap;have x4:=TU.out.cell 4;simp only [O,K,L] at x4;have y1:=ZX.out.cell 1;have y0:=ZX.out.cell 0;simp only [O,K,L] at y0 y1;unfold cutV at U9;simp only at U9;obtain⟨ra,hra⟩:∃ x,(if s4=f5 then (⟨g,0,ah⟩:Addr) else (⟨g,0,ah⟩:Addr).add (f5 * 7))=x:=⟨_,rfl⟩;rw [hra] at U9;have HRA:=J hra;clear hra;go_wp2_with fail;refine U9.out.mono ?_;rintro e6 w6 ⟨rfl,hb⟩;have RB:=RA.out w6 hb (aA ra) (s4-f5) (fun hK=>⟨by rw [<- HRA.out,if_neg (by have:=HC.out; have:=HFK.out; have:=LM.out; omega),lM],rfl⟩);have H6:=J hb;have C6:=J (Si.out.grow hb);have ZY:=J (TU.out.on hb);have Yv:=J (PZ.out.trans (hb.mono PZ.out.size));clear x4 y0 y1 hb U9 RA;go_wp2_with fail;refine RB.mono ?_;rintro e7 wq ⟨⟨Xp,Xq,Z4⟩,rfl,UU⟩;obtain⟨⟨lq,hq1,hq2⟩,⟨lu,hu1,hu2⟩,iR,hlow⟩:=UU;have hoff:Off (dN (aA ⟨g,0,ah⟩,n4,s4)).ownBlock w6 wq:=⟨fun j hj hne=>iR.1 j hj fun e=>hne (by rw [e]; rfl),iR.2⟩;have CQ:=J (C6.out.NU (ev':=(aA ⟨g,0,ah⟩,n4,s4)) hoff ⟨lq,hq1,hq2⟩);have G8:=J (iR.box ZY.out (show w.heap.size+1+1+1≠g by have:=BG.out; have:=L1.out; omega));have BQ:=J (hlow w.heap.size w (by have:=BG.out; have:=L1.out; omega) Yv.out);have UP1:=J hu1;have UP2:=J hu2;have L6:=J Yv.out.size;clear hq1 hq2 hu1 hu2 iR hlow hoff RB C6 ZY Yv TU Si PZ H6;have Q3:=G8.out;obtain⟨z0,z1,z2,z3,z4,z5⟩:=Q3.gQ;obtain⟨Js,Jt,Ju,Jv,Jw,Jy⟩:=Q3.nS;have Jz:=Q3.lt;have bs:=dW wq (w.heap.size+1+1+1) (Q U b.me) (D p1 q1 s1) (D p2 q2 s2) (D p3 q3 s3) (D (aA ⟨g,0,ah⟩) n4 s4) (D p5 q5 s5);have FB:=J (dP Q3 (Q U b.me) (D p1 q1 s1) (D p2 q2 s2) (D p3 q3 s3) (D (aA ⟨g,0,ah⟩) n4 s4) (D p5 q5 s5));have FC:=J (CQ.out.but bs Q3);have FL:=J (dD (b:=w.heap.size+1+1+1) BQ.out (by omega) (Q U b.me) (D p1 q1 s1) (D p2 q2 s2) (D p3 q3 s3) (D (aA ⟨g,0,ah⟩) n4 s4) (D p5 q5 s5));have FU:=J (bs.own UP1.out Q3 (by decide));have FV:=J (UP2.out.mono fun _ _ q=>nC.but q bs Q3 (by decide));clear Q3 bs;go_wp2_with fail;clear z0 z1 z2 z3 z4 z5;obtain⟨v0,v1,v2,v3,v4,v5⟩:=FB.out.gQ;refine bodyPost_ret (v:=.tuple #[aX #[Q U b.me,D p1 q1 s1,D p2 q2 s2,D p3 q3 s3,D (aA ⟨g,0,ah⟩) n4 s4,D p5 q5 s5],D Xp Xq Z4,ak aR]) (by simp [results,aD,go_sem,v0,v1,v2,v3,v4,v5]) rfl ?_;rw [LQ.out];exact⟨⟨(p1,q1,s1),(p2,q2,s2),(p3,q3,s3),(aA ⟨g,0,ah⟩,n4,s4),(p5,q5,s5),(Xp,Xq,Z4),lu,rfl,FC.out.TM,Row.dB FU.out,FV.out.mono fun _ _ q=>vk q (uI FL.out),fun _=>⟨_,FC.out.near⟩,fun _=>⟨_,_,FC.out⟩,dH FU.out L6.out,w,FV.out.mono fun _ _ q=>nC.less q L6.out⟩,FL.out⟩
  ·have hne:(y6 != f)=aR:=by simp [TT]
   have YF:=J TT;clear TT x4;have LQ:=J (show takeB b (c,d) (g0,h0) f=(b,[],aj) from by
    rw [<- qP HR.out];unfold yt;rw [FE.out];simp only;rw [if_pos (by rw [EF.out]; exact YF.out)])
   have Q1:=T1.out;have Q3:=T4.out;obtain⟨x0,x1,x2,x3,x4,x5⟩:=Q1.gQ;obtain⟨z0,z1,z2,z3,z4,z5⟩:=Q3.gQ;obtain⟨Js,Jt,Ju,Jv,Jw,Jy⟩:=Q3.nS;have Jz:=Q3.lt;have FB:=J (dP Q3 (Q U b.me) (D no nn nc) (D ao an ac) (D so sn sc) (D eo en ec) (D oo kg oc));have FL:=J (dD (b:=w.heap.size+1+1+1) BW.out (by omega) (Q U b.me) (D no nn nc) (D ao an ac) (D so sn sc) (D eo en ec) (D oo kg oc));clear Q1 Q3;go_wp2_with fail;clear z0 z1 z2 z3 z4 z5;obtain⟨v0,v1,v2,v3,v4,v5⟩:=FB.out.gQ;refine bodyPost_ret (v:=.tuple #[aX #[Q U b.me,D no nn nc,D ao an ac,D so sn sc,D eo en ec,D oo kg oc],D ah 0 0,ak aj]) (by simp [results,aD,go_sem,v0,v1,v2,v3,v4,v5]) rfl ?_;rw [LQ.out];exact⟨⟨(no,nn,nc),(ao,an,ac),(so,sn,sc),(eo,en,ec),(oo,kg,oc),(ah,0,0),[],rfl,HH.out.on FL.out,ji _,.nil,fun h=>h.on FL.out,fun h=>(h.resolve_right (by simp)).on FL.out,iH _ _,w,.nil⟩,FL.out⟩
theorem qQ {m:List En} (hr:fV m) {i j:Nat} {x y:En} (hx:m[i]?=aA x) (hy:m[j]?=aA y) (h:dF x=dF y):i=j:=by
 rcases Nat.lt_trichotomy i j with q|q|q
 ·have:=(jc x y).2 (rY hr q hx hy);rw [h,mG] at this;cases this
 ·exact q
 ·have:=(jc y x).2 (rY hr q hy hx);rw [h,mG] at this;cases this
theorem yu {m:List En} (hr:fV m) {e:En} (he:e∈m):qO m e.tree e.sub=aA e/\gW m e.tree e.sub=aR:=by
 have ft:=nG hr e.tree e.sub;have hk:dF e∈m.map dF:=List.mem_map.2 ⟨e,he,rfl⟩;have ht:gW m e.tree e.sub=aR:=by
  cases h:gW m e.tree e.sub with
  | true=>rfl
  | false =>
   rw [h,if_neg (by simp)] at ft;rcases jS (m.map dF) (dF e) with q|⟨k,q,r⟩
   ·exfalso;obtain⟨j,hj⟩:=au.1 hk;have:∀ l:List (dO×dO),gT l (dF e)=-1->dF e ∉ l:=by
     intro l
     induction l with
     | nil=>intro _ h; simp at h
     | cons a l ih =>
      intro h2 h3;rw [gT] at h2
      split at h2
      ·cases h2
      ·rename_i hne
       split at h2
       ·rename_i h4
        rcases aV.1 h3 with h5|h5
        ·exact hne h5.symm
        ·exact ih h4 h5
       ·rename_i h4
        rcases jS l (dF e) with h5|⟨k,h5,_⟩
        ·exact h4 h5
        ·rw [h5] at h2; omega
    exact this _ q hk
   ·rw [show gT (m.map dF) (e.tree,e.sub)=gT (m.map dF) (dF e) from rfl,q] at ft;omega
 obtain⟨e',h1,h2,h3⟩:=mH ht;obtain⟨j,hj⟩:=au.1 he;have hij:=qQ hr h1 hj h2;rw [hij,hj] at h1;obtain rfl:=aL h1;exact⟨h3,ht⟩
theorem DY {m:List En} {t s:dO} (h:∀ e∈m,dF e≠(t,s)):gW m t s=aj:=by
 unfold gW;cases hm:m[dR (m.map dF) (t,s)]? with
 | none=>rfl
 | some e=>exact decide_eq_false (h e (aP hm))
theorem Ot {m:List En} (hr:fV m) {j:Nat} {x:En} (hx:m[j]?=aA x):∀ y∈cutAt m j,dF y≠dF x:=by
 intro y hy h;unfold cutAt at hy;rcases aU.1 hy with q|q
 ·obtain⟨i,hi⟩:=au.1 q;have hl:=(ay.1 hi).1;rw [aT] at hl;rw [aJ (by omega)] at hi;have:=qQ hr hi hx h;omega
 ·obtain⟨i,hi⟩:=au.1 q;rw [aQ] at hi;have:=qQ hr hi hx h;omega
theorem IU {l:List En} (hr:fV l) (x:En) (hn:∀ y∈l,dF y≠dF x):fV (eZ l (dR (l.map dF) (dF x)) x):=by
 unfold eZ;have lo:∀ y∈l.take (dR (l.map dF) (dF x)),qK y x<0:=by
  intro y hy;obtain⟨i,hi⟩:=au.1 hy;have hl:=(ay.1 hi).1;rw [aT] at hl;rw [aJ (by omega)] at hi;exact (jc y x).1 (kI (l.map dF) (dF x) i (dF y) (by omega) (by rw [aG,hi]; rfl))
 have hi:∀ y∈l.drop (dR (l.map dF) (dF x)),qK x y<0:=by
  intro y hy;obtain⟨i,hi⟩:=au.1 hy;rw [aQ] at hi;have h1:=oG hr (dF x) (Nat.le_add_right _ i) hi;have h2:=hn y (aP hi);rw [lU];have h3:¬ (qK y x<0):=fun q=>by rw [(jc y x).2 q] at h1; cases h1
  rw [lU] at h3;rcases jq x.tree y.tree with q|q|q
  ·exact aN q
  ·refine aI ⟨q,?_⟩;rcases jq x.sub y.sub with r|r|r
   ·exact r
   ·exact absurd (Prod.ext q.symm r.symm) h2
   ·exact absurd (aI ⟨q.symm,r⟩) h3
  ·exact absurd (aN q) h3
 rw [aH];show List.Pairwise (fun x y=>qK x y<0) _;rw [List.pairwise_append];refine⟨hr.sublist (List.take_sublist _ _),?_,fun a ha b hb=>?_⟩
 ·rw [aM,List.pairwise_cons];exact⟨fun b hb=>hi b hb,hr.sublist (List.drop_sublist _ _)⟩
 ·rw [aM,aV] at hb;rcases hb with rfl|hb
  ·exact lo a ha
  ·exact uS _ _ _ (lo a ha) (hi b hb)
theorem IW {b:Br} (hr:fV b.ent) (e:En) (hn:∀ y∈b.ent,dF y≠dF e) :
  (fH b.dG e.tree=ah/\iA b e=(b,aj))\/(∃ a,fH b.dG e.tree=aA a/\e.from_=a.par/\a.par≠-1/\iA b e=(b,aj)) \/
  (∃ a u,fH b.dG e.tree=aA a/\(e.from_=-1\/e.from_≠a.par)/\(u=aR->a.par≠-1)/\iA b e=({ b with ent:=eZ b.ent (dR (b.ent.map dF) (dF e)) { e with up:=u } },u)/\u=(!(a.par == -1) && !dV b.ent e.tree e.p)):=by
 have ht:gW b.ent e.tree e.sub=aj:=DY hn;rw [<- nH hr];unfold zG;cases hf:fH b.dG e.tree with
 | none=>exact aN ⟨rfl,rfl⟩
 | some a =>
  right;simp only;rw [if_neg (by rw [ht]; simp)];by_cases hp:e.from_=a.par/\a.par≠-1
  ·rw [if_pos hp];exact aN ⟨a,rfl,hp.1,hp.2,rfl⟩
  ·rw [if_neg hp];refine aI ⟨a,_,rfl,?_,fun h=>?_,rfl,rfl⟩
   ·by_cases h1:e.from_=a.par
    ·left;rw [h1];exact Decidable.byContradiction fun q=>hp ⟨h1,q⟩
    ·exact aI h1
   ·intro q;rw [q] at h;simp at h
theorem Ov (p:List C5):lT [] p=aR:=rfl
theorem vE (t:dO) (m:List En):∀ (k j:Nat) (z0:En),m[j]?=aA z0->∃ z,(gJ t m k).1[j]?=aA z/\(z=z0\/z=tV z0)
 | 0,_,z0,h=>⟨z0,h,aN rfl⟩
 | k+1,j,z0,h=>by
  obtain⟨z,h1,h2⟩:=vE t m k j z0 h;rw [iK];unfold fM
  split
  ·exact⟨z,h1,h2⟩
  ·rename_i e he
   split
   ·by_cases hk:k=j
    ·subst hk;rw [he] at h1;obtain rfl:=aL h1;have hl:=(ay.1 he).1;refine⟨tV e,by rw [aK hl],?_⟩;rcases h2 with rfl|rfl
     ·exact aI rfl
     ·exact aI rfl
    ·exact⟨z,by rw [List.getElem?_set_ne hk]; exact h1,h2⟩
   ·exact⟨z,h1,h2⟩
theorem yw (t:dO) (m:List En):∀ k,k<=m.length->∀ y∈(gJ t m k).2,y∈(gJ t m k).1/\y.up=aR/\∃ z0∈m,y=tV z0/\z0.tree=t/\z0.up=aj/\dV m t z0.p=aj
 | 0,_,y,h=>by simp [gJ] at h
 | k+1,hk,y,h=>by
  have ih:=yw t m k (by omega);obtain⟨_,h2,_⟩:=rU t m k (by omega);obtain⟨e,he,heq⟩:=vE t m k k m[k] (List.getElem?_eq_getElem (by omega));have hmk:m[k]∈m:=List.getElem_mem _;generalize m[k]=z0 at *;rw [iK] at h ⊢;generalize gJ t m k=s at *;unfold fM at h ⊢;rw [he] at h ⊢;simp only at h ⊢;by_cases hc:e.tree=t/\e.up=aj/\dV s.1 t e.p=aj
  ·rw [if_pos hc] at h ⊢;obtain⟨c1,c2,c3⟩:=hc;obtain rfl:e=z0:=by
    rcases heq with q|q
    ·exact q
    ·rw [q] at c2; cases c2
   rcases aU.1 h with h|h
   ·obtain⟨g1,g2,g3⟩:=ih y h;refine⟨(FR he g1).resolve_left (fun q=>?_),g2,g3⟩;rw [q,c2] at g2; cases g2
   ·obtain rfl:=List.mem_singleton.1 h;refine⟨au.2 ⟨k,aK (ay.1 he).1⟩,rfl,e,hmk,rfl,c1,c2,?_⟩;cases hq:dV m t e.p with
    | false=>rfl
    | true=>rw [h2 t e.p hq] at c3; cases c3
  ·rw [if_neg hc] at h ⊢;exact ih y h
end Go.Proofs.YtghlpefopidlaaaGreat.Sb
