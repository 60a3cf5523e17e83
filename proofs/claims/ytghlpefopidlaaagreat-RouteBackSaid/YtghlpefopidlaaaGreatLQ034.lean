/-
  Add of package subs:. Conditions as told.
-/
import Derived.Test.YtghlpefopidlaaaGreatLQ032
import Derived.Test.YtghlpefopidlaaaGreatLQ033
import Derived.Test.YtghlpefopidlaaaGreatLQ031
set_option maxRecDepth 100000
set_option maxHeartbeats 64000000
open _root_.Bool renaming false->ak,true->aR
open _root_.Go renaming World->aF
open Go.IntKind renaming i64->U
open Go.Lib renaming hid->J
open Go.Obj renaming cells->aC
open Go.Proofs.Tryz renaming results114->aB,results117->aD,prog->aT
open Go.Value renaming slice->D,int->Q,bool->aj,agg->aU
open _root_.List renaming getElem?_cons_zero->K,getElem?_cons_succ->L,getElem?_toArray->O,mem_iff_getElem?->au,getElem?_eq_some_iff->aA,getElem?_map->aG,append_assoc->aH,getElem?_take_of_lt->aI,singleton_append->aJ,mem_of_getElem?->aM,getElem?_drop->aO,length_take->aQ,mem_cons->aS
open _root_.Nat renaming le_refl->aL,le_trans->aP
open _root_.Option renaming none->ah,some->ay
open _root_.Or renaming inr->aK,inl->aN
namespace Go.Proofs.YtghlpefopidlaaaGreat.Sb
open Go.RowKit Go.Sort Rw YtghlpefopidlaaaGreat.Nm Pr Bk Av Rl
theorem PM.less {w0 wr:aF} {B B':Nat} {v:Value} {p:List C5} (h:PM w0 B wr v p) (hB:B'<=B):PM w0 B' wr v p:=h.imp id fun h=>dM h hB
theorem Cp.less {w0 wr:aF} {B B':Nat} {b:Br} {nv av sv ev ov:Sl} (h:Cp w0 B wr b nv av sv ev ov) (hB:B'<=B):Cp w0 B' wr b nv av sv ev ov where
 near:=dM h.near hB
 seen:=dM h.seen hB
 dO:=by obtain⟨l,h1,h2⟩:=h.dO; exact⟨l,dM h1 hB,h2.mono fun _ _ q=>⟨q.1,q.2.1,PM.less q.2.2 hB⟩⟩
 ent:=by obtain⟨l,h1,h2⟩:=h.ent; exact⟨l,dM h1 hB,h2.mono fun _ _ q=>⟨q.1,q.2.1,q.2.2.1,q.2.2.2.1,PM.less q.2.2.2.2 hB⟩⟩
 own:=by obtain⟨l,h1,h2⟩:=h.own; exact⟨l,dM h1 hB,h2.mono fun _ _ q=>⟨q.1,PM.less q.2 hB⟩⟩
def Jw (b:Br) (e:En):Br×Bool:=match gJ b.dO e.tree with
 | none=>(b,ak)
 | some a=>if jQ b.ent e.tree e.sub=aR then (b,ak) else if e.from_=a.par/\a.par≠-1 then (b,ak) else
  ({ b with ent:=fM b.ent (dZ (b.ent.map dY) (e.tree,e.sub)) { e with up:=!(a.par == -1) && !fA b.ent e.tree e.p } },!(a.par == -1) && !fA b.ent e.tree e.p)
theorem tT {b:Br} (hr:jl b.ent) {e:En}:Jw b e=iB b e:=by
 unfold Jw iB;have ft:=tO hr e.tree e.sub;have ek:dY e=(e.tree,e.sub):=rfl;rw [ek,ft];by_cases h:fO (b.dO.map Ad.id) e.tree=-1
 ·have hn:gJ b.dO e.tree=ah:=xu fun j a hj=>GK (key:=Ad.id) h j a hj;rw [hn];cases b.dO[(fO (b.dO.map Ad.id) e.tree).toNat]? with
  | none=>rfl
  | some a=>simp only; rw [if_pos h]
 ·obtain⟨k,hk⟩:∃ k:Nat,fO (b.dO.map Ad.id) e.tree=k:=⟨(fO (b.dO.map Ad.id) e.tree).toNat,by have:=rX (b.dO.map Ad.id) e.tree; omega⟩;obtain⟨g1,g2⟩:=zq hk;rw [aG] at g1;cases ha:b.dO[k]? with
  | none=>rw [ha] at g1; cases g1
  | some a =>
   rw [ha] at g1;have hx:a.id=e.tree:=Option.some.inj g1;have hf:gJ b.dO e.tree=ay a:=vB ha hx fun j z hj hz=>g2 j z.id hj (by rw [aG,hz]; rfl);rw [hf,hk,Int.toNat_natCast,ha];simp only;rw [if_neg (show ¬ ((k:Int)=-1) by omega)];have e1:(!(a.par == -1))=decide (a.par≠-1):=by by_cases hp:a.par=-1 <;> simp [hp]
   rw [e1];by_cases ht:jQ b.ent e.tree e.sub=aR
   ·rw [if_pos ht,if_pos ht,if_pos (by omega)]
   ·rw [if_neg ht,if_neg ht,if_neg (show ¬ ((-1:Int)≠-1) by simp)];by_cases hp:e.from_=a.par/\a.par≠-1
    ·rw [if_pos hp,if_pos ⟨by rw [hp.1]; exact hp.2,hp.1⟩]
    ·rw [if_neg hp,if_neg fun q=>hp ⟨q.2,by rw [<- q.2]; exact q.1⟩]
def Jy (W:aF) (P R:Prop) (m:List En) (r:Br×Bool) (e:Ending) (w':aF):Prop:=(∃ nv av sv ev ov:Sl,e=.returned (.tuple #[mG r.1.me nv av sv ev ov,aj r.2])/\jq w' r.1 nv av sv ev ov/\(P->lN w' nv r.1.near)/\(R\/r.2=aR->mo w' r.1 nv av sv ev ov)/\(r.1.ent=m\/∃ (V:aF) (B:Nat),W.heap.size<=B/\Cp (vw V) B w' r.1 nv av sv ev ov))/\Below W.heap.size W w'
theorem Jy.two {W:aF} {P R:Prop} {m:List En} {r:Br×Bool} {e:Ending} {w':aF} (h:Jy W P R m r e w'):yt W P R r e w':=by
 obtain⟨⟨a1,a2,a3,a4,a5,h1,h2,h3,h4,_⟩,h5⟩:=h;exact⟨⟨a1,a2,a3,a4,a5,h1,h2,h3,h4⟩,h5⟩
theorem U5 (b:Br) (e:En) (nv av sv ev ov:Sl) (x:jk) (w:aF) (h:jq w b nv av sv ev ov) (he:jJ w x e) (hf:Gl b) (hp:rO b) (hr:jl b.ent) (hok:∀ e∈b.ent,dR e.p) (hoe:dR e.p) :
  Calls aT 114 #[mG b.me nv av sv ev ov,qO x] w (Jy w (lN w nv b.near) (mo w b nv av sv ev ov) b.ent (iB b e)):=by
 obtain⟨no,nn,nc⟩:=nv;obtain⟨ao,an,ac⟩:=av;obtain⟨so,sn,sc⟩:=sv;obtain⟨eo,en,ec⟩:=ev;obtain⟨oo,eG,oc⟩:=ov;obtain⟨y1,y2,y3,y4,⟨yo,yn,yc⟩,y6,y7⟩:=x;obtain⟨h0,h1,h2,h3⟩:=gT w #[Q U b.me,D no nn nc,D ao an ac,D so sn sc,D eo en ec,D oo eG oc] #[Q U y1,Q U y2,Q U y3,Q U y4,D yo yn yc,Q U y6,aj y7] #[Q U 0,D ah 0 0,D ah 0 0,D ah 0 0,D ah 0 0,D ah 0 0] 30 67 30;have BB:=J h0;have X1:=J h1;have X2:=J h2;have X3:=J h3;have HH:=J h;have EE:=J he;have HF:=J hf;have HP:=J hp;have HR:=J hr;have OK:=J hok;have OE:=J hoe;obtain⟨la,ha1,ha2⟩:=h.dO;have SW:=J (Kt b.me (D no nn nc) (D so sn sc) (D eo en ec) (D oo eG oc) (ao,an,ac) la b.dO (y1,y2) _ (ha1.on BB.out) (ha2.mono fun _ _ q=>q.on BB.out) hp.dO);have ET:=J (show e.tree=(y1,y2) from he.1.symm);have ES:=J (show e.sub=(y3,y4) from he.2.1.symm);have EF:=J (show e.from_=y6 from he.2.2.1.symm);obtain⟨x0,x1,x2,x3,x4,x5⟩:=X1.out.fD;obtain⟨d0,d1,d2,d3,d4,d5,d6⟩:=X2.out.pG;clear h0 h1 h2 h3 h he hf hp hr hok hoe ha1 ha2 la;go_enter Tryz.func114,Tryz.ntmps114;go_wp2_with fail;generalize ((w.alloc (aC #[Q U b.me,D no nn nc,D ao an ac,D so sn sc,D eo en ec,D oo eG oc] 30)).alloc (aC #[Q U y1,Q U y2,Q U y3,Q U y4,D yo yn yc,Q U y6,aj y7] 67)).alloc (aC #[Q U 0,D ah 0 0,D ah 0 0,D ah 0 0,D ah 0 0,D ah 0 0] 30)=W at *;refine SW.out.mono ?_;rintro e1 w1 ⟨hq,hb⟩;have B1:=J (BB.out.trans (hb.mono BB.out.size));have Z1:=J (X1.out.on hb);have Z2:=J (X2.out.on hb);have Z3:=J (X3.out.on hb);clear hb SW X1 X2 X3;clear x0 x1 x2 x3 x4 x5;clear d0 d1 d2 d3 d4 d5 d6;obtain⟨⟨r1,r2,⟨ro,rn,rc⟩,r4⟩,kn,rfl,hin⟩:∃ (r:kY) (kn:Bool),e1=.returned (.tuple #[nD r,aj kn])/\((kn=ak/\gJ b.dO (y1,y2)=ah)\/(kn=aR/\∃ a,gJ b.dO (y1,y2)=ay a/\r.2.2.2=a.par)):=by
  cases hfa:gJ b.dO (y1,y2) with
  | none =>
   rw [hfa] at hq;exact⟨_,ak,hq,aN ⟨rfl,rfl⟩⟩
  | some a =>
   rw [hfa] at hq;obtain⟨r,h1,h2⟩:=hq;exact⟨r,aR,h1,aK ⟨rfl,a,rfl,h2.2.1⟩⟩
 have HI:=J hin;have nb:=gN w1 (aC #[Q U r1,Q U r2,D ro rn rc,Q U r4] 36);have AB:=J (dQ w1 #[Q U r1,Q U r2,D ro rn rc,Q U r4] 36);have B2:=J (B1.out.trans (nb.mono B1.out.size));have Y1:=J (Z1.out.on nb);have Y2:=J (Z2.out.on nb);have Y3:=J (Z3.out.on nb);obtain⟨les,hs1,hs2⟩:=HH.out.ent;have PL:=J (zK (eo,en,ec) les b.ent (y1,y2) (y3,y4) _ (hs1.on B2.out) (hs2.mono fun _ _ q=>q.on B2.out) HR.out (by rw [hs2.len]; have:=HF.out.ent; omega));have anv:=J hs1;have akn:=J hs2;obtain⟨k,hk⟩:∃ k,dZ (b.ent.map dY) ((y1,y2),(y3,y4))=k:=⟨_,rfl⟩;obtain⟨th,hth⟩:∃ k,jQ b.ent (y1,y2) (y3,y4)=k:=⟨_,rfl⟩;rw [hk,hth] at PL;have HK:=J hk;have TH:=J hth;have KL:=J (show k<=b.ent.length by rw [<- hk]; simpa using nG (b.ent.map dY) ((y1,y2),(y3,y4)));have x4:=Y1.out.cell 4;simp only [O,K,L] at x4;have d1:=Y2.out.cell 1;have d0:=Y2.out.cell 0;have d2:=Y2.out.cell 2;have d3:=Y2.out.cell 3;simp only [O,K,L] at d0 d1 d2 d3;clear hin hq nb hs1 hs2 hk hth Z1 Z2 Z3;go_wp2_with fail;generalize hw2:w1.alloc (aC #[Q U r1,Q U r2,D ro rn rc,Q U r4] 36)=w2 at *;refine PL.out.mono ?_;rintro e2 w3 ⟨rfl,hb⟩;have BW:=J (B2.out.trans (hb.mono B2.out.size));have T1:=J (Y1.out.on hb);have T2:=J (Y2.out.on hb);have T3:=J (Y3.out.on hb);have TA:=AB.out.on hb;clear x4;clear d0 d1 d2 d3;have a3:=TA.cell 3;have d5:=T2.out.cell 5;simp only [O,K,L] at a3 d5;obtain⟨fq,hfq⟩:∃ q,(y6 == r4)=q:=⟨_,rfl⟩;obtain⟨rt,hrt⟩:∃ q,(r4 == -1)=q:=⟨_,rfl⟩;have FQ:=J hfq;have RT:=J hrt;clear hb PL TA Y1 Y2 Y3 AB hw2;cases kn
 ·have LQ:=J (show iB b e=(b,ak) from by
   rw [<- tT HR.out];unfold Jw;have h0:gJ b.dO e.tree=ah:=by
    rw [ET.out];rcases HI.out with⟨_,h⟩|⟨h,_⟩
    ·exact h
    ·cases h
   rw [h0])
  have Q1:=T1.out;have Q3:=T3.out;obtain⟨x0,x1,x2,x3,x4,x5⟩:=Q1.fD;obtain⟨z0,z1,z2,z3,z4,z5⟩:=Q3.fD;obtain⟨VW,VX,VY,VZ,V7,Wd⟩:=Q3.kK;have Wh:=Q3.lt;have FB:=J (dL Q3 (Q U b.me) (D no nn nc) (D ao an ac) (D so sn sc) (D eo en ec) (D oo eG oc));have FL:=J (dH (b:=w.heap.size+1+1) BW.out (by omega) (Q U b.me) (D no nn nc) (D ao an ac) (D so sn sc) (D eo en ec) (D oo eG oc));clear Q1 Q3;go_wp2_with fail;clear z0 z1 z2 z3 z4 z5;obtain⟨a5,a6,a7,a8,aE,b9⟩:=FB.out.fD;refine bodyPost_ret (v:=.tuple #[aU #[Q U b.me,D no nn nc,D ao an ac,D so sn sc,D eo en ec,D oo eG oc],aj ak]) (by simp [results,aB,go_sem,a5,a6,a7,a8,aE,b9]) rfl ?_;rw [LQ.out];exact⟨⟨(no,nn,nc),(ao,an,ac),(so,sn,sc),(eo,en,ec),(oo,eG,oc),rfl,HH.out.on FL.out,fun h=>h.on FL.out,fun h=>(h.resolve_right (by simp)).on FL.out,aN rfl⟩,FL.out⟩
 ·cases th
  ·cases rt
   ·cases fq
    ·have x1:=T2.out.cell 1;have x0:=T2.out.cell 0;have x2:=T2.out.cell 2;have x3:=T2.out.cell 3;have x4:=T2.out.cell 4;have x6:=T2.out.cell 6;simp only [O,K,L] at x0 x1 x2 x3 x4 x6;have PE:=J (show fI w3 (D yo yn yc) e.p from (EE.out.2.2.2.2).on BW.out);have S3X:=J (show w.heap.size<=w3.heap.size from BW.out.size);have CP:=J (Bn (y1,y2,y3,y4,(yo,yn,yc),y6,y7) e.p w3 PE.out (iD OE.out));go_wp2_with fail;refine CP.out.mono ?_;rintro e4 w3b ⟨⟨⟨T,a0,a4⟩,rfl,ho⟩,hb⟩;clear x0 x1 x2 x3 x4 x6;clear a3 d5;have V2:=T2.out.on hb;obtain⟨x0,x1,x2,x3,x4,x5,x6⟩:=V2.pG;obtain⟨xf0,xf1,xf2,xf3,Ov,xf5,xf6⟩:=V2.fs7;have xlt:=V2.lt;have bs:=K8 w3b (w.heap.size+1) (Q U y1) (Q U y2) (Q U y3) (Q U y4) (D T a0 a4) (Q U y6) (aj y7);have E2:=J (vH V2 (Q U y1) (Q U y2) (Q U y3) (Q U y4) (D T a0 a4) (Q U y6) (aj y7));have E1:=J (bs.box (T1.out.on hb) (by omega));have E3:=J (bs.box (T3.out.on hb) (by omega));have EO:=J (bs.own ho V2 (by decide));have EL:=J (qI (b:=w.heap.size+1) (BW.out.trans (hb.mono BW.out.size)) (by omega) (Q U y1) (Q U y2) (Q U y3) (Q U y4) (D T a0 a4) (Q U y6) (aj y7));have ES2:=J (show w3.heap.size<=(KZ w3b (w.heap.size+1) (Q U y1) (Q U y2) (Q U y3) (Q U y4) (D T a0 a4) (Q U y6) (aj y7)).heap.size by have:=hb.size; simp; omega);have L4:=J (show w.heap.size+1+1<w3.heap.size from T3.out.lt);clear V2 ho hb CP T1 T2 T3 BW bs;go_upto_region 7 with fail;clear x0 x1 x2 x3 x4 x5 x6 xf0 xf1 xf2 xf3 Ov xf5 xf6 xlt;unfold KZ at E2 E1 E3 EO EL ES2;generalize (((((((w3b).setCell ⟨w.heap.size+1,0,ah⟩ (Q U y1)).setCell ⟨w.heap.size+1,1,ah⟩ (Q U y2)).setCell ⟨w.heap.size+1,2,ah⟩ (Q U y3)).setCell ⟨w.heap.size+1,3,ah⟩ (Q U y4)).setCell ⟨w.heap.size+1,4,ah⟩ (D T a0 a4)).setCell ⟨w.heap.size+1,5,ah⟩ (Q U y6)).setCell ⟨w.heap.size+1,6,ah⟩ (aj y7)=w4b at *;have x1:=E2.out.cell 1;have x0:=E2.out.cell 0;have x4:=E2.out.cell 4;simp only [O,K,L] at x0 x1 x4;obtain⟨z0,z1,z2,z3,z4,z5⟩:=E1.out.fD;have CV:=J (YS b.me (D no nn nc) (D ao an ac) (D so sn sc) (D oo eG oc) (eo,en,ec) les b.ent (y1,y2) (D T a0 a4) e.p w4b (anv.out.on EL.out) (akn.out.mono fun _ _ q=>q.on EL.out) HR.out (by rw [akn.out.len]; have:=HF.out.ent; omega) (Row.dJ EO.out) OK.out OE.out);obtain⟨cv,hcv⟩:∃ c,fA b.ent (y1,y2) e.p=c:=⟨_,rfl⟩;rw [hcv] at CV;have CVQ:=J hcv;clear hcv;go_wp2_with fail;refine CV.out.mono ?_;rintro e5 w4c ⟨rfl,hb⟩;clear x0 x1 x4;clear z0 z1 z2 z3 z4 z5
     replace E2:=J (E2.out.on hb)
     replace E1:=J (E1.out.on hb)
     replace E3:=J (E3.out.on hb)
     replace EO:=J (Bk.dI EO.out hb)
     replace ES2:=J (aP ES2.out hb.size)
     replace EL:=J (EL.out.trans (hb.mono EL.out.size))
     clear CV hb;have x6:=E2.out.cell 6;have xf6:=E2.out.fr 6;have xlt:=E2.out.lt;simp only [O,K,L] at x6;have bs:=eF w4c (w.heap.size+1) 6 (aj (!cv));have T2:=J (show dK (w4c.setCell ⟨w.heap.size+1,6,ah⟩ (aj (!cv))) (w.heap.size+1) #[Q U y1,Q U y2,Q U y3,Q U y4,D T a0 a4,Q U y6,aj (!cv)] 67 by simpa using eu (k:=6) E2.out (aj (!cv)));have T1:=J (bs.box E1.out (by omega));have T3:=J (bs.box E3.out (by omega));have OC:=J (bs.own EO.out E2.out (by decide));have BW:=J (EL.out.setCell (p:=⟨w.heap.size+1,6,ah⟩) (by simp) (aj (!cv)));have S45:=J (show w3.heap.size<=(w4c.setCell ⟨w.heap.size+1,6,ah⟩ (aj (!cv))).heap.size by have:=ES2.out; simp; omega);clear bs E1 E2 E3 EO EL ES2;go_upto_region 8 with fail;clear x6 xf6 xlt;generalize w4c.setCell ⟨w.heap.size+1,6,ah⟩ (aj (!cv))=w5 at *;have LQ:=J (show iB b e=({ b with ent:=fM b.ent k { e with up:=(!cv) } },(!cv)) from by
      rw [<- tT HR.out];unfold Jw;obtain⟨a,h0,h1⟩:∃ a,gJ b.dO e.tree=ay a/\r4=a.par:=by
       rw [ET.out];rcases HI.out with⟨h,_⟩|⟨_,h⟩
       ·cases h
       ·exact h
      rw [h0];simp only;rw [if_neg (by rw [ET.out,ES.out,TH.out]; simp),if_neg ?_,show dZ (b.ent.map dY) (e.tree,e.sub)=k by rw [ET.out,ES.out]; exact HK.out,<- h1,RT.out]
      ·rw [ET.out,CVQ.out]
       rfl
      ·rintro⟨g,_⟩;rw [EF.out,<- h1] at g;have:=FQ.out;simp at this;exact this g)
     have Q1:=T1.out;obtain⟨x0,x1,x2,x3,x4,x5⟩:=Q1.fD;clear Q1;go_wp2_with fail;refine (qj b (no,nn,nc) (ao,an,ac) (so,sn,sc) (eo,en,ec) (oo,eG,oc) w w5 BW.out HH.out HF.out HP.out).mono ?_;rintro e6 w6 ⟨⟨⟨p1,q1,s1⟩,⟨p2,q2,s2⟩,⟨p3,q3,s3⟩,⟨p4,q4,s4⟩,⟨p5,q5,s5⟩,rfl,cp⟩,hb6⟩;clear x0 x1 x2 x3 x4 x5;have V1:=T1.out.on hb6;have V2:=J (T2.out.on hb6);have V3:=J (T3.out.on hb6);obtain⟨x0,x1,x2,x3,x4,x5⟩:=V1.fD;obtain⟨xf0,xf1,xf2,xf3,Ov,xf5⟩:=V1.kK;have xlt:=V1.lt;have bs:=fu w6 w.heap.size (Q U b.me) (D p1 q1 s1) (D p2 q2 s2) (D p3 q3 s3) (D p4 q4 s4) (D p5 q5 s5);have FB:=J (dL V1 (Q U b.me) (D p1 q1 s1) (D p2 q2 s2) (D p3 q3 s3) (D p4 q4 s4) (D p5 q5 s5));have FC:=J (Sb.Cp.less (cp.but bs V1) (show w3.heap.size<=w5.heap.size from S45.out));have FO:=J (bs.own (Bk.dI OC.out hb6) V1 (by decide));have FL:=J (dH (b:=w.heap.size) (BW.out.trans (hb6.mono BW.out.size)) (aL _) (Q U b.me) (D p1 q1 s1) (D p2 q2 s2) (D p3 q3 s3) (D p4 q4 s4) (D p5 q5 s5));have F2:=J (bs.box V2.out (by omega));have F3:=J (bs.box V3.out (by omega));have SZ:=J (show w3.heap.size<=(gV w6 w.heap.size (Q U b.me) (D p1 q1 s1) (D p2 q2 s2) (D p3 q3 s3) (D p4 q4 s4) (D p5 q5 s5)).heap.size by have:=hb6.size; have:=S45.out; simp; omega);clear V1 V2 V3 cp hb6 bs T1 T2 T3 OC BW;go_upto_region 9 with fail;clear x0 x1 x2 x3 x4 x5 xf0 xf1 xf2 xf3 Ov xf5 xlt;unfold gV at FB FC FL F2 F3 SZ FO;generalize ((((((w6).setCell ⟨w.heap.size,0,ah⟩ (Q U b.me)).setCell ⟨w.heap.size,1,ah⟩ (D p1 q1 s1)).setCell ⟨w.heap.size,2,ah⟩ (D p2 q2 s2)).setCell ⟨w.heap.size,3,ah⟩ (D p3 q3 s3)).setCell ⟨w.heap.size,4,ah⟩ (D p4 q4 s4)).setCell ⟨w.heap.size,5,ah⟩ (D p5 q5 s5)=w7 at *;obtain⟨le,hle1,hle2⟩:=FC.out.ent;have wo:=J hle1;have HL2:=J hle2;clear hle1 hle2;have nb:=gN w7 (aC #[Q U y1,Q U y2,Q U y3,Q U y4,D T a0 a4,Q U y6,aj (!cv)] 67);have bx:=dQ w7 #[Q U y1,Q U y2,Q U y3,Q U y4,D T a0 a4,Q U y6,aj (!cv)] 67;have IN:=J (Af w3.heap.size (D p4 q4 s4) le k (y1,y2,y3,y4,(T,a0,a4),y6,(!cv)) w7.heap.size _ (Bk.dI wo.out nb) bx (fun e=>by
      obtain⟨d,hd⟩:=jF wo.out _ e;have:=hd.lt;omega) (by rw [HL2.out.len]; exact KL.out) (by rw [HL2.out.len]; exact HF.out.ent) (aP SZ.out nb.size))
     have FB2:=J (FB.out.on nb);have F22:=J (F2.out.on nb);have F32:=J (F3.out.on nb);have FO2:=J (Bk.dI FO.out nb);have FC2:=J (FC.out.grow nb);have FL2:=J (FL.out.trans (nb.mono FL.out.size));have HA2:=J (HL2.out.mono fun _ _ q=>q.grow nb);have EG:=J (jF (Bk.dI wo.out nb));have x4:=FB.out.cell 4;simp only [O,K,L] at x4;obtain⟨d0,d1,d2,d3,d4,d5,d6⟩:=F2.out.pG;clear nb bx;go_wp2_with fail;refine IN.out.mono ?_;rintro e8 w8 ⟨bJ,rfl,hown,hbel,hoth⟩;clear x4;clear d0 d1 d2 d3 d4 d5 d6;generalize w7.alloc (aC #[Q U y1,Q U y2,Q U y3,Q U y4,D T a0 a4,Q U y6,aj (!cv)] 67)=w7a at *;obtain⟨t1,t2,hv8⟩:=(Row.dJ hown).len;subst hv8;generalize (le.take k++(y1,y2,y3,y4,(T,a0,a4),y6,(!cv))::le.drop k).length=tn at *;have hoff:Off (D p4 q4 s4).ownBlock w7a w8:=⟨hoth,hbel.size⟩;have CP:=J (FC2.out.acg (ev':=(t1,tn,t2)) (el:=fM b.ent k { e with up:=(!cv) }) hoff ⟨fM le k (y1,y2,y3,y4,(T,a0,a4),y6,(!cv)),by unfold fM; rw [aH]; exact hown,yg (HA2.out.mono fun _ _ q=>q.off hoff EG.out (by decide)) k ⟨EE.out.1,EE.out.2.1,EE.out.2.2.1,rfl,aK (hoff.own FO2.out EG.out (by decide))⟩⟩);have G1:=hoff.box FB2.out EG.out (by decide);have G3:=hoff.box F32.out EG.out (by decide);have G2:=J (show dK w8 (w.heap.size+1) #[Q U y1,Q U y2,Q U y3,Q U y4,D T a0 a4,Q U y6,aj (!cv)] 67 from (hoth _ F22.out.lt (fun e=>by
      have:=Jt wo.out _ e.symm;have:=L4.out;omega)).trans F22.out)
     have NC:=J (show dK (w8.setCell ⟨w.heap.size,4,ah⟩ (D t1 tn t2)) w.heap.size #[Q U b.me,D p1 q1 s1,D p2 q2 s2,D p3 q3 s3,D t1 tn t2,D p5 q5 s5] 30 by simpa using eu (k:=4) G1 (D t1 tn t2));have MC:=J (CP.out.but (eF w8 w.heap.size 4 (D t1 tn t2)) G1);have M3:=J ((eF w8 w.heap.size 4 (D t1 tn t2)).box G3 (by omega));have M2:=J ((eF w8 w.heap.size 4 (D t1 tn t2)).box G2.out (by omega));have ML:=J (show Below w.heap.size w (w8.setCell ⟨w.heap.size,4,ah⟩ (D t1 tn t2)) from (FL2.out.trans (hbel.mono (by have:=L4.out; omega))).setCell (p:=⟨w.heap.size,4,ah⟩) (aL _) _);have x4:=G1.cell 4;have Ov:=G1.fr 4;have xlt:=G1.lt;simp only [O,K,L] at x4;clear hown hbel hoth hoff G1 G2 G3 CP FB FB2 FC FC2 FO FO2 F2 F22 F3 F32 FL FL2 wo HL2 HA2 EG IN SZ;go_upto_region 10 with fail;clear x4 Ov xlt;generalize w8.setCell ⟨w.heap.size,4,ah⟩ (D t1 tn t2)=w9 at *;have Q1:=NC.out;have Q2:=M2.out;have Q3:=M3.out;obtain⟨x0,x1,x2,x3,x4,x5⟩:=Q1.fD;have d6:=Q2.cell 6;simp only [O,K,L] at d6;obtain⟨z0,z1,z2,z3,z4,z5⟩:=Q3.fD;obtain⟨VW,VX,VY,VZ,V7,Wd⟩:=Q3.kK;have Wh:=Q3.lt;have FB:=J ((dL Q3 (Q U b.me) (D p1 q1 s1) (D p2 q2 s2) (D p3 q3 s3) (D t1 tn t2) (D p5 q5 s5)).on (Below.refl _ _).drew);have FC:=J ((MC.out.but (fu w9 (w.heap.size+1+1) (Q U b.me) (D p1 q1 s1) (D p2 q2 s2) (D p3 q3 s3) (D t1 tn t2) (D p5 q5 s5)) Q3).grow (Below.refl _ _).drew);have FL:=J (dH (b:=w.heap.size+1+1) ML.out (by omega) (Q U b.me) (D p1 q1 s1) (D p2 q2 s2) (D p3 q3 s3) (D t1 tn t2) (D p5 q5 s5)).drew;clear Q1 Q2 Q3 NC MC M2 M3 ML;go_wp2
     go_region
     all_goals simp only [Exit.then]
     all_goals apply_assumption
     all_goals
      clear x0 x1 x2 x3 x4 x5;clear z0 z1 z2 z3 z4 z5 VW VX VY VZ V7 Wd Wh;clear d6;unfold gV at FB FC FL;generalize (((((((w9).setCell ⟨w.heap.size+1+1,0,ah⟩ (Q U b.me)).setCell ⟨w.heap.size+1+1,1,ah⟩ (D p1 q1 s1)).setCell ⟨w.heap.size+1+1,2,ah⟩ (D p2 q2 s2)).setCell ⟨w.heap.size+1+1,3,ah⟩ (D p3 q3 s3)).setCell ⟨w.heap.size+1+1,4,ah⟩ (D t1 tn t2)).setCell ⟨w.heap.size+1+1,5,ah⟩ (D p5 q5 s5)).drew=wz at *;obtain⟨a5,a6,a7,a8,aE,b9⟩:=FB.out.fD;go_wp2;refine bodyPost_ret (v:=.tuple #[aU #[Q U b.me,D p1 q1 s1,D p2 q2 s2,D p3 q3 s3,D t1 tn t2,D p5 q5 s5],aj (!cv)]) (by simp [results,aB,go_sem,a5,a6,a7,a8,aE,b9]) rfl ?_;rw [LQ.out];exact⟨⟨(p1,q1,s1),(p2,q2,s2),(p3,q3,s3),(t1,tn,t2),(p5,q5,s5),rfl,FC.out.vbr,fun _=>⟨_,FC.out.near⟩,fun _=>⟨_,_,FC.out⟩,aK ⟨_,_,S3X.out,FC.out⟩⟩,FL.out⟩
    ·have LQ:=J (show iB b e=(b,ak) from by
      rw [<- tT HR.out];unfold Jw;obtain⟨a,h0,h1⟩:∃ a,gJ b.dO e.tree=ay a/\r4=a.par:=by
       rw [ET.out];rcases HI.out with⟨h,_⟩|⟨_,h⟩
       ·cases h
       ·exact h
      rw [h0];simp only;rw [if_neg (by rw [ET.out,ES.out,TH.out]; simp),if_pos ?_];refine⟨?_,?_⟩
      ·rw [EF.out,<- h1];have:=FQ.out;simpa using this
      ·rw [<- h1];have:=RT.out;simpa using this)
     have Q1:=T1.out;have Q3:=T3.out;obtain⟨x0,x1,x2,x3,x4,x5⟩:=Q1.fD;obtain⟨z0,z1,z2,z3,z4,z5⟩:=Q3.fD;obtain⟨VW,VX,VY,VZ,V7,Wd⟩:=Q3.kK;have Wh:=Q3.lt;have FB:=J (dL Q3 (Q U b.me) (D no nn nc) (D ao an ac) (D so sn sc) (D eo en ec) (D oo eG oc));have FL:=J (dH (b:=w.heap.size+1+1) BW.out (by omega) (Q U b.me) (D no nn nc) (D ao an ac) (D so sn sc) (D eo en ec) (D oo eG oc));clear Q1 Q3;go_wp2_with fail;clear z0 z1 z2 z3 z4 z5;obtain⟨a5,a6,a7,a8,aE,b9⟩:=FB.out.fD;refine bodyPost_ret (v:=.tuple #[aU #[Q U b.me,D no nn nc,D ao an ac,D so sn sc,D eo en ec,D oo eG oc],aj ak]) (by simp [results,aB,go_sem,a5,a6,a7,a8,aE,b9]) rfl ?_;rw [LQ.out];exact⟨⟨(no,nn,nc),(ao,an,ac),(so,sn,sc),(eo,en,ec),(oo,eG,oc),rfl,HH.out.on FL.out,fun h=>h.on FL.out,fun h=>(h.resolve_right (by simp)).on FL.out,aN rfl⟩,FL.out⟩
   ·cases fq
    all_goals
     have x1:=T2.out.cell 1;have x0:=T2.out.cell 0;have x2:=T2.out.cell 2;have x3:=T2.out.cell 3;have x4:=T2.out.cell 4;have x6:=T2.out.cell 6;simp only [O,K,L] at x0 x1 x2 x3 x4 x6;have PE:=J (show fI w3 (D yo yn yc) e.p from (EE.out.2.2.2.2).on BW.out);have S3X:=J (show w.heap.size<=w3.heap.size from BW.out.size);have CP:=J (Bn (y1,y2,y3,y4,(yo,yn,yc),y6,y7) e.p w3 PE.out (iD OE.out));go_wp2_with fail;refine CP.out.mono ?_;rintro e4 w3b ⟨⟨⟨T,a0,a4⟩,rfl,ho⟩,hb⟩;clear x0 x1 x2 x3 x4 x6;clear a3 d5;have V2:=T2.out.on hb;obtain⟨x0,x1,x2,x3,x4,x5,x6⟩:=V2.pG;obtain⟨xf0,xf1,xf2,xf3,Ov,xf5,xf6⟩:=V2.fs7;have xlt:=V2.lt;have bs:=K8 w3b (w.heap.size+1) (Q U y1) (Q U y2) (Q U y3) (Q U y4) (D T a0 a4) (Q U y6) (aj y7);have E2:=J (vH V2 (Q U y1) (Q U y2) (Q U y3) (Q U y4) (D T a0 a4) (Q U y6) (aj y7));have E1:=J (bs.box (T1.out.on hb) (by omega));have E3:=J (bs.box (T3.out.on hb) (by omega));have EO:=J (bs.own ho V2 (by decide));have EL:=J (qI (b:=w.heap.size+1) (BW.out.trans (hb.mono BW.out.size)) (by omega) (Q U y1) (Q U y2) (Q U y3) (Q U y4) (D T a0 a4) (Q U y6) (aj y7));have ES2:=J (show w3.heap.size<=(KZ w3b (w.heap.size+1) (Q U y1) (Q U y2) (Q U y3) (Q U y4) (D T a0 a4) (Q U y6) (aj y7)).heap.size by have:=hb.size; simp; omega);have L4:=J (show w.heap.size+1+1<w3.heap.size from T3.out.lt);clear V2 ho hb CP T1 T2 T3 BW bs;go_upto_region 7 with fail;clear x0 x1 x2 x3 x4 x5 x6 xf0 xf1 xf2 xf3 Ov xf5 xf6 xlt;unfold KZ at E2 E1 E3 EO EL ES2;generalize (((((((w3b).setCell ⟨w.heap.size+1,0,ah⟩ (Q U y1)).setCell ⟨w.heap.size+1,1,ah⟩ (Q U y2)).setCell ⟨w.heap.size+1,2,ah⟩ (Q U y3)).setCell ⟨w.heap.size+1,3,ah⟩ (Q U y4)).setCell ⟨w.heap.size+1,4,ah⟩ (D T a0 a4)).setCell ⟨w.heap.size+1,5,ah⟩ (Q U y6)).setCell ⟨w.heap.size+1,6,ah⟩ (aj y7)=w4b at *;have x6:=E2.out.cell 6;have xf6:=E2.out.fr 6;have xlt:=E2.out.lt;simp only [O,K,L] at x6;have bs:=eF w4b (w.heap.size+1) 6 (aj ak);have T2:=J (show dK (w4b.setCell ⟨w.heap.size+1,6,ah⟩ (aj ak)) (w.heap.size+1) #[Q U y1,Q U y2,Q U y3,Q U y4,D T a0 a4,Q U y6,aj ak] 67 by simpa using eu (k:=6) E2.out (aj ak));have T1:=J (bs.box E1.out (by omega));have T3:=J (bs.box E3.out (by omega));have OC:=J (bs.own EO.out E2.out (by decide));have BW:=J (EL.out.setCell (p:=⟨w.heap.size+1,6,ah⟩) (by simp) (aj ak));have S45:=J (show w3.heap.size<=(w4b.setCell ⟨w.heap.size+1,6,ah⟩ (aj ak)).heap.size by have:=ES2.out; simp; omega);clear bs E1 E2 E3 EO EL ES2;go_upto_region 8 with fail;clear x6 xf6 xlt;generalize w4b.setCell ⟨w.heap.size+1,6,ah⟩ (aj ak)=w5 at *;have LQ:=J (show iB b e=({ b with ent:=fM b.ent k { e with up:=ak } },ak) from by
      rw [<- tT HR.out];unfold Jw;obtain⟨a,h0,h1⟩:∃ a,gJ b.dO e.tree=ay a/\r4=a.par:=by
       rw [ET.out];rcases HI.out with⟨h,_⟩|⟨_,h⟩
       ·cases h
       ·exact h
      rw [h0];simp only;rw [if_neg (by rw [ET.out,ES.out,TH.out]; simp),if_neg ?_,show dZ (b.ent.map dY) (e.tree,e.sub)=k by rw [ET.out,ES.out]; exact HK.out,<- h1,RT.out]
      ·rfl
      ·rintro⟨_,g⟩;rw [<- h1] at g;have:=RT.out;simp at this;exact g this)
     have Q1:=T1.out;obtain⟨x0,x1,x2,x3,x4,x5⟩:=Q1.fD;clear Q1;go_wp2_with fail;refine (qj b (no,nn,nc) (ao,an,ac) (so,sn,sc) (eo,en,ec) (oo,eG,oc) w w5 BW.out HH.out HF.out HP.out).mono ?_;rintro e6 w6 ⟨⟨⟨p1,q1,s1⟩,⟨p2,q2,s2⟩,⟨p3,q3,s3⟩,⟨p4,q4,s4⟩,⟨p5,q5,s5⟩,rfl,cp⟩,hb6⟩;clear x0 x1 x2 x3 x4 x5;have V1:=T1.out.on hb6;have V2:=J (T2.out.on hb6);have V3:=J (T3.out.on hb6);obtain⟨x0,x1,x2,x3,x4,x5⟩:=V1.fD;obtain⟨xf0,xf1,xf2,xf3,Ov,xf5⟩:=V1.kK;have xlt:=V1.lt;have bs:=fu w6 w.heap.size (Q U b.me) (D p1 q1 s1) (D p2 q2 s2) (D p3 q3 s3) (D p4 q4 s4) (D p5 q5 s5);have FB:=J (dL V1 (Q U b.me) (D p1 q1 s1) (D p2 q2 s2) (D p3 q3 s3) (D p4 q4 s4) (D p5 q5 s5));have FC:=J (Sb.Cp.less (cp.but bs V1) (show w3.heap.size<=w5.heap.size from S45.out));have FO:=J (bs.own (Bk.dI OC.out hb6) V1 (by decide));have FL:=J (dH (b:=w.heap.size) (BW.out.trans (hb6.mono BW.out.size)) (aL _) (Q U b.me) (D p1 q1 s1) (D p2 q2 s2) (D p3 q3 s3) (D p4 q4 s4) (D p5 q5 s5));have F2:=J (bs.box V2.out (by omega));have F3:=J (bs.box V3.out (by omega));have SZ:=J (show w3.heap.size<=(gV w6 w.heap.size (Q U b.me) (D p1 q1 s1) (D p2 q2 s2) (D p3 q3 s3) (D p4 q4 s4) (D p5 q5 s5)).heap.size by have:=hb6.size; have:=S45.out; simp; omega);clear V1 V2 V3 cp hb6 bs T1 T2 T3 OC BW;go_upto_region 9 with fail;clear x0 x1 x2 x3 x4 x5 xf0 xf1 xf2 xf3 Ov xf5 xlt;unfold gV at FB FC FL F2 F3 SZ FO;generalize ((((((w6).setCell ⟨w.heap.size,0,ah⟩ (Q U b.me)).setCell ⟨w.heap.size,1,ah⟩ (D p1 q1 s1)).setCell ⟨w.heap.size,2,ah⟩ (D p2 q2 s2)).setCell ⟨w.heap.size,3,ah⟩ (D p3 q3 s3)).setCell ⟨w.heap.size,4,ah⟩ (D p4 q4 s4)).setCell ⟨w.heap.size,5,ah⟩ (D p5 q5 s5)=w7 at *;obtain⟨le,hle1,hle2⟩:=FC.out.ent;have wo:=J hle1;have HL2:=J hle2;clear hle1 hle2;have nb:=gN w7 (aC #[Q U y1,Q U y2,Q U y3,Q U y4,D T a0 a4,Q U y6,aj ak] 67);have bx:=dQ w7 #[Q U y1,Q U y2,Q U y3,Q U y4,D T a0 a4,Q U y6,aj ak] 67;have IN:=J (Af w3.heap.size (D p4 q4 s4) le k (y1,y2,y3,y4,(T,a0,a4),y6,ak) w7.heap.size _ (Bk.dI wo.out nb) bx (fun e=>by
      obtain⟨d,hd⟩:=jF wo.out _ e;have:=hd.lt;omega) (by rw [HL2.out.len]; exact KL.out) (by rw [HL2.out.len]; exact HF.out.ent) (aP SZ.out nb.size))
     have FB2:=J (FB.out.on nb);have F22:=J (F2.out.on nb);have F32:=J (F3.out.on nb);have FO2:=J (Bk.dI FO.out nb);have FC2:=J (FC.out.grow nb);have FL2:=J (FL.out.trans (nb.mono FL.out.size));have HA2:=J (HL2.out.mono fun _ _ q=>q.grow nb);have EG:=J (jF (Bk.dI wo.out nb));have x4:=FB.out.cell 4;simp only [O,K,L] at x4;obtain⟨d0,d1,d2,d3,d4,d5,d6⟩:=F2.out.pG;clear nb bx;go_wp2_with fail;refine IN.out.mono ?_;rintro e8 w8 ⟨bJ,rfl,hown,hbel,hoth⟩;clear x4;clear d0 d1 d2 d3 d4 d5 d6;generalize w7.alloc (aC #[Q U y1,Q U y2,Q U y3,Q U y4,D T a0 a4,Q U y6,aj ak] 67)=w7a at *;obtain⟨t1,t2,hv8⟩:=(Row.dJ hown).len;subst hv8;generalize (le.take k++(y1,y2,y3,y4,(T,a0,a4),y6,ak)::le.drop k).length=tn at *;have hoff:Off (D p4 q4 s4).ownBlock w7a w8:=⟨hoth,hbel.size⟩;have CP:=J (FC2.out.acg (ev':=(t1,tn,t2)) (el:=fM b.ent k { e with up:=ak }) hoff ⟨fM le k (y1,y2,y3,y4,(T,a0,a4),y6,ak),by unfold fM; rw [aH]; exact hown,yg (HA2.out.mono fun _ _ q=>q.off hoff EG.out (by decide)) k ⟨EE.out.1,EE.out.2.1,EE.out.2.2.1,rfl,aK (hoff.own FO2.out EG.out (by decide))⟩⟩);have G1:=hoff.box FB2.out EG.out (by decide);have G3:=hoff.box F32.out EG.out (by decide);have G2:=J (show dK w8 (w.heap.size+1) #[Q U y1,Q U y2,Q U y3,Q U y4,D T a0 a4,Q U y6,aj ak] 67 from (hoth _ F22.out.lt (fun e=>by
      have:=Jt wo.out _ e.symm;have:=L4.out;omega)).trans F22.out)
     have NC:=J (show dK (w8.setCell ⟨w.heap.size,4,ah⟩ (D t1 tn t2)) w.heap.size #[Q U b.me,D p1 q1 s1,D p2 q2 s2,D p3 q3 s3,D t1 tn t2,D p5 q5 s5] 30 by simpa using eu (k:=4) G1 (D t1 tn t2));have MC:=J (CP.out.but (eF w8 w.heap.size 4 (D t1 tn t2)) G1);have M3:=J ((eF w8 w.heap.size 4 (D t1 tn t2)).box G3 (by omega));have M2:=J ((eF w8 w.heap.size 4 (D t1 tn t2)).box G2.out (by omega));have ML:=J (show Below w.heap.size w (w8.setCell ⟨w.heap.size,4,ah⟩ (D t1 tn t2)) from (FL2.out.trans (hbel.mono (by have:=L4.out; omega))).setCell (p:=⟨w.heap.size,4,ah⟩) (aL _) _);have x4:=G1.cell 4;have Ov:=G1.fr 4;have xlt:=G1.lt;simp only [O,K,L] at x4;clear hown hbel hoth hoff G1 G2 G3 CP FB FB2 FC FC2 FO FO2 F2 F22 F3 F32 FL FL2 wo HL2 HA2 EG IN SZ;go_upto_region 10 with fail;clear x4 Ov xlt;generalize w8.setCell ⟨w.heap.size,4,ah⟩ (D t1 tn t2)=w9 at *;have Q1:=NC.out;have Q2:=M2.out;have Q3:=M3.out;obtain⟨x0,x1,x2,x3,x4,x5⟩:=Q1.fD;have d6:=Q2.cell 6;simp only [O,K,L] at d6;obtain⟨z0,z1,z2,z3,z4,z5⟩:=Q3.fD;obtain⟨VW,VX,VY,VZ,V7,Wd⟩:=Q3.kK;have Wh:=Q3.lt;have FB:=J ((dL Q3 (Q U b.me) (D p1 q1 s1) (D p2 q2 s2) (D p3 q3 s3) (D t1 tn t2) (D p5 q5 s5)).on (Below.refl _ _).drew);have FC:=J ((MC.out.but (fu w9 (w.heap.size+1+1) (Q U b.me) (D p1 q1 s1) (D p2 q2 s2) (D p3 q3 s3) (D t1 tn t2) (D p5 q5 s5)) Q3).grow (Below.refl _ _).drew);have FL:=J (dH (b:=w.heap.size+1+1) ML.out (by omega) (Q U b.me) (D p1 q1 s1) (D p2 q2 s2) (D p3 q3 s3) (D t1 tn t2) (D p5 q5 s5)).drew;clear Q1 Q2 Q3 NC MC M2 M3 ML;go_wp2
     go_region
     all_goals simp only [Exit.then]
     all_goals apply_assumption
     all_goals
      clear x0 x1 x2 x3 x4 x5;clear z0 z1 z2 z3 z4 z5 VW VX VY VZ V7 Wd Wh;clear d6;unfold gV at FB FC FL;generalize (((((((w9).setCell ⟨w.heap.size+1+1,0,ah⟩ (Q U b.me)).setCell ⟨w.heap.size+1+1,1,ah⟩ (D p1 q1 s1)).setCell ⟨w.heap.size+1+1,2,ah⟩ (D p2 q2 s2)).setCell ⟨w.heap.size+1+1,3,ah⟩ (D p3 q3 s3)).setCell ⟨w.heap.size+1+1,4,ah⟩ (D t1 tn t2)).setCell ⟨w.heap.size+1+1,5,ah⟩ (D p5 q5 s5)).drew=wz at *;obtain⟨a5,a6,a7,a8,aE,b9⟩:=FB.out.fD;go_wp2;refine bodyPost_ret (v:=.tuple #[aU #[Q U b.me,D p1 q1 s1,D p2 q2 s2,D p3 q3 s3,D t1 tn t2,D p5 q5 s5],aj ak]) (by simp [results,aB,go_sem,a5,a6,a7,a8,aE,b9]) rfl ?_;rw [LQ.out];exact⟨⟨(p1,q1,s1),(p2,q2,s2),(p3,q3,s3),(t1,tn,t2),(p5,q5,s5),rfl,FC.out.vbr,fun _=>⟨_,FC.out.near⟩,fun _=>⟨_,_,FC.out⟩,aK ⟨_,_,S3X.out,FC.out⟩⟩,FL.out⟩
  ·have LQ:=J (show iB b e=(b,ak) from by
    rw [<- tT HR.out];unfold Jw;obtain⟨a,h0,h1⟩:∃ a,gJ b.dO e.tree=ay a/\r4=a.par:=by
     rw [ET.out];rcases HI.out with⟨h,_⟩|⟨_,h⟩
     ·cases h
     ·exact h
    rw [h0];simp only;rw [if_pos (by rw [ET.out,ES.out,TH.out])])
   have Q1:=T1.out;have Q3:=T3.out;obtain⟨x0,x1,x2,x3,x4,x5⟩:=Q1.fD;obtain⟨z0,z1,z2,z3,z4,z5⟩:=Q3.fD;obtain⟨VW,VX,VY,VZ,V7,Wd⟩:=Q3.kK;have Wh:=Q3.lt;have FB:=J (dL Q3 (Q U b.me) (D no nn nc) (D ao an ac) (D so sn sc) (D eo en ec) (D oo eG oc));have FL:=J (dH (b:=w.heap.size+1+1) BW.out (by omega) (Q U b.me) (D no nn nc) (D ao an ac) (D so sn sc) (D eo en ec) (D oo eG oc));clear Q1 Q3;go_wp2_with fail;clear z0 z1 z2 z3 z4 z5;obtain⟨a5,a6,a7,a8,aE,b9⟩:=FB.out.fD;refine bodyPost_ret (v:=.tuple #[aU #[Q U b.me,D no nn nc,D ao an ac,D so sn sc,D eo en ec,D oo eG oc],aj ak]) (by simp [results,aB,go_sem,a5,a6,a7,a8,aE,b9]) rfl ?_;rw [LQ.out];exact⟨⟨(no,nn,nc),(ao,an,ac),(so,sn,sc),(eo,en,ec),(oo,eG,oc),rfl,HH.out.on FL.out,fun h=>h.on FL.out,fun h=>(h.resolve_right (by simp)).on FL.out,aN rfl⟩,FL.out⟩
theorem YW (b:Br) (e:En) (nv av sv ev ov:Sl) (x:jk) (w:aF) (h:jq w b nv av sv ev ov) (he:jJ w x e) (hf:Gl b) (hp:rO b) (hr:jl b.ent) (hok:∀ e∈b.ent,dR e.p) (hoe:dR e.p) :
  Calls aT 114 #[mG b.me nv av sv ev ov,qO x] w (yt w (lN w nv b.near) (mo w b nv av sv ev ov) (iB b e)) :=
 (U5 b e nv av sv ev ov x w h he hf hp hr hok hoe).mono fun _ _ h=>h.two
theorem tQ {α:Type} (l:List α) (k:Nat):(cutAt l k).Sublist l:=by
 unfold cutAt
 conv=>rhs; rw [<- List.take_append_drop k l]
 exact (List.Sublist.refl _).append (List.drop_sublist_drop_left l (Nat.le_succ k))
theorem pW {α:Type} {l:List α} {k:Nat} {x:α} (h:x∈cutAt l k):x∈l:=(tQ l k).subset h
def H9 (b:Br) (t s:eU) (f:Int):Br×List En×Bool:=match yF b.ent t s with
 | none=>(b,[],ak)
 | some e=>if e.from_≠f then (b,[],ak) else if e.up=ak then ({ b with ent:=cutAt b.ent (dZ (b.ent.map dY) (t,s)) },[],ak) else
  ({ b with ent:=(cutAt b.ent (dZ (b.ent.map dY) (t,s))).take (jA (cutAt b.ent (dZ (b.ent.map dY) (t,s))) t)++(iL (qN (cutAt b.ent (dZ (b.ent.map dY) (t,s))) t) (qN (cutAt b.ent (dZ (b.ent.map dY) (t,s))) t).length).1++(cutAt b.ent (dZ (b.ent.map dY) (t,s))).drop (jA (cutAt b.ent (dZ (b.ent.map dY) (t,s))) t+(qN (cutAt b.ent (dZ (b.ent.map dY) (t,s))) t).length) },(iL (qN (cutAt b.ent (dZ (b.ent.map dY) (t,s))) t) (qN (cutAt b.ent (dZ (b.ent.map dY) (t,s))) t).length).2,aR)
theorem acT {m:List En} (hr:jl m) (t:eU):iN t m m.length=(m.take (jA m t)++(iL (qN m t) (qN m t).length).1++m.drop (jA m t+(qN m t).length),(iL (qN m t) (qN m t).length).2):=by
 obtain⟨c,h1,h0,h2,h3,h4⟩:=Ld hr t;have h:=OH h2 h3 h4;rw [<- h1] at h;rw [h];have e:m.drop (jA m t+(qN m t).length)=c:=by
  conv=>lhs; arg 2; rw [h1]
  rw [List.drop_left' (by rw [List.length_append,h0])]
 rw [e]
theorem yG {b:Br} (hr:jl b.ent) {t s:eU} {f:Int}:H9 b t s f=takeB b t s f:=by
 unfold H9 takeB;have ft:=tO hr t s;rw [ft];cases ht:jQ b.ent t s with
 | false =>
  rw [Dp ht];simp only [Bool.false_eq_true,if_false];cases b.ent[(-1:Int).toNat]? <;> rfl
 | true =>
  obtain⟨e,h1,h2,h3⟩:=sG ht;rw [h3];simp only [if_true];rw [Int.toNat_natCast,h1];simp only;rw [if_neg (show ¬ ((dZ (b.ent.map dY) (t,s):Int)=-1) by omega)];have hr2:jl (cutAt b.ent (dZ (b.ent.map dY) (t,s))):=hr.sublist (tQ _ _);generalize cutAt b.ent (dZ (b.ent.map dY) (t,s))=m at *;rw [acT hr2]
theorem tK.less {w0 wr:aF} {B B':Nat} {x:jk} {e:En} (h:tK w0 B wr x e) (hB:B'<=B):tK w0 B' wr x e:=⟨h.1,h.2.1,h.2.2.1,h.2.2.2.1,h.2.2.2.2.imp id fun h=>dM h hB⟩
def ais (w:aF) (P R:Prop) (r:Br×List En×Bool) (e:Ending) (w':aF):Prop:=(∃ (nv av sv ev ov uv:Sl) (lu:List jk),e=.returned (.tuple #[mG r.1.me nv av sv ev ov,dX uv,aj r.2.2])/\jq w' r.1 nv av sv ev ov/\mh w' (dX uv) lu/\eY (jJ w') lu r.2.1/\(P->lN w' nv r.1.near)/\(R\/r.2.2=aR->mo w' r.1 nv av sv ev ov)/\jH w' w.heap.size (dX uv) lu/\∃ V:aF,eY (tK (vw V) w.heap.size w') lu r.2.1)/\Below w.heap.size w w'
theorem U6 (b:Br) (nv av sv ev ov:Sl) (t s:eU) (f:Int) (w:aF) (h:jq w b nv av sv ev ov) (hf:Gl b) (hp:rO b) (hr:jl b.ent) (hok:∀ e∈b.ent,dR e.p) :
  Calls aT 117 #[mG b.me nv av sv ev ov,nC t,nC s,Q U f] w (ais w (lN w nv b.near) (mo w b nv av sv ev ov) (takeB b t s f)):=by
 obtain⟨no,nn,nc⟩:=nv;obtain⟨ao,an,ac⟩:=av;obtain⟨so,sn,sc⟩:=sv;obtain⟨eo,en,ec⟩:=ev;obtain⟨oo,eG,oc⟩:=ov;obtain⟨c,d⟩:=t;obtain⟨g0,h0⟩:=s;obtain⟨n0,X,Y,Z,V⟩:=vG w #[Q U b.me,D no nn nc,D ao an ac,D so sn sc,D eo en ec,D oo eG oc] #[Q U c,Q U d] #[Q U g0,Q U h0] #[Q U 0,D ah 0 0,D ah 0 0,D ah 0 0,D ah 0 0,D ah 0 0] 30 23 23 30;have BB:=J n0;have X1:=J X;have X2:=J Y;have X4:=J V;have HH:=J h;have HF:=J hf;have HP:=J hp;have HR:=J hr;have OK:=J hok;have x4:=X.cell 4;simp only [O,K,L] at x4;obtain⟨y0,y1⟩:=Y.cs2;obtain⟨z0,z1⟩:=Z.cs2;obtain⟨les,hs1,hs2⟩:=h.ent;have LS1:=J (hs1.on n0);have LS2:=J (hs2.mono fun _ _ q=>q.on n0);have PL:=J (zK (eo,en,ec) les b.ent (c,d) (g0,h0) _ LS1.out LS2.out hr (by rw [hs2.len]; have:=hf.ent; omega));have hn:=iX hs1;have HN:=J hn;obtain⟨k,hk⟩:∃ k,dZ (b.ent.map dY) ((c,d),(g0,h0))=k:=⟨_,rfl⟩;obtain⟨th,hth⟩:∃ k,jQ b.ent (c,d) (g0,h0)=k:=⟨_,rfl⟩;rw [hk,hth] at PL;have HK:=J hk;clear n0 X Y Z V h hf hp hr hok hs1 hs2 hn hk;go_enter Tryz.func117,Tryz.ntmps117;go_wp2_with fail;generalize (((w.alloc (aC #[Q U b.me,D no nn nc,D ao an ac,D so sn sc,D eo en ec,D oo eG oc] 30)).alloc (aC #[Q U c,Q U d] 23)).alloc (aC #[Q U g0,Q U h0] 23)).alloc (aC #[Q U 0,D ah 0 0,D ah 0 0,D ah 0 0,D ah 0 0,D ah 0 0] 30)=W at *;refine PL.out.mono ?_;rintro e1 w1 ⟨rfl,hb⟩;have BW:=J (BB.out.trans (hb.mono BB.out.size));have T1:=J (X1.out.on hb);have T2:=J (X2.out.on hb);have T4:=J (X4.out.on hb);have HB:=J hb;clear x4 y0 y1 z0 z1 PL hb X1 X2 X4;cases th
 ·have LQ:=J (show takeB b (c,d) (g0,h0) f=(b,[],ak) from by
   rw [<- yG HR.out];unfold H9;rw [Dp hth])
  have Q1:=T1.out;have Q3:=T4.out;obtain⟨x0,x1,x2,x3,x4,x5⟩:=Q1.fD;obtain⟨z0,z1,z2,z3,z4,z5⟩:=Q3.fD;obtain⟨VW,VX,VY,VZ,V7,Wd⟩:=Q3.kK;have Wh:=Q3.lt;have FB:=J (dL Q3 (Q U b.me) (D no nn nc) (D ao an ac) (D so sn sc) (D eo en ec) (D oo eG oc));have FL:=J (dH (b:=w.heap.size+1+1+1) BW.out (by omega) (Q U b.me) (D no nn nc) (D ao an ac) (D so sn sc) (D eo en ec) (D oo eG oc));clear Q1 Q3;go_wp2_with fail;clear z0 z1 z2 z3 z4 z5;obtain⟨T,a0,a3,a4,a5,a6⟩:=FB.out.fD;refine bodyPost_ret (v:=.tuple #[aU #[Q U b.me,D no nn nc,D ao an ac,D so sn sc,D eo en ec,D oo eG oc],D ah 0 0,aj ak]) (by simp [results,aD,go_sem,T,a0,a3,a4,a5,a6]) rfl ?_;rw [LQ.out];exact⟨⟨(no,nn,nc),(ao,an,ac),(so,sn,sc),(eo,en,ec),(oo,eG,oc),(ah,0,0),[],rfl,HH.out.on FL.out,jo _,.nil,fun h=>h.on FL.out,fun h=>(h.resolve_right (by simp)).on FL.out,iO _ _,w,.nil⟩,FL.out⟩
 ·obtain⟨e,he,hke,hfe⟩:=sG hth;rw [HK.out] at he;have hkm:=(aA.1 he).1;have hkn:k<en:=by rw [<- HN.out,LS2.out.len]; exact hkm
  obtain⟨y,hy,hx⟩:=LS2.out.at k e he;obtain⟨p,ix,px⟩:=P8 LS1.out rfl HN.out hy;obtain⟨i0,i1,i2,i3,i4,i5,i6⟩:=px w1 HB.out;obtain⟨y1,y2,y3,y4,⟨yo,yn,yc⟩,y6,y7⟩:=y;simp only at i0 i1 i2 i3 i4 i5 i6;have FE:=J hfe;have EF:=J (show e.from_=y6 from hx.2.2.1.symm);have EU:=J (show e.up=y7 from hx.2.2.2.1.symm);have x4:=T1.out.cell 4;simp only [O,K,L] at x4;clear px hy hx he hke hfe hth i0 i1 i2 i3 i4;by_cases hyf:y6=f
  ·have hne:(y6 != f)=ak:=by simp [hyf]
   have YF:=J hyf;have T1_:=T1.out;clear hyf x4;obtain⟨x0,x1,x2,x3,x4,x5⟩:=T1_.fD;clear T1_;go_wp2_with fail;refine (qj b (no,nn,nc) (ao,an,ac) (so,sn,sc) (eo,en,ec) (oo,eG,oc) w w1 BW.out HH.out HF.out HP.out).mono ?_;rintro e2 w2 ⟨⟨⟨p1,q1,s1⟩,⟨p2,q2,s2⟩,⟨p3,q3,s3⟩,⟨p4,q4,s4⟩,⟨p5,q5,s5⟩,rfl,cp⟩,hb2⟩;clear x0 x1 x2 x3 x4 x5;clear ix i5 i6 hne;have V4:=T4.out.on hb2;obtain⟨z0,z1,z2,z3,z4,z5⟩:=V4.fD;obtain⟨VW,VX,VY,VZ,V7,Wd⟩:=V4.kK;have Wh:=V4.lt;have bs:=fu w2 (w.heap.size+1+1+1) (Q U b.me) (D p1 q1 s1) (D p2 q2 s2) (D p3 q3 s3) (D p4 q4 s4) (D p5 q5 s5);have FB:=J (dL V4 (Q U b.me) (D p1 q1 s1) (D p2 q2 s2) (D p3 q3 s3) (D p4 q4 s4) (D p5 q5 s5));have FC:=J (cp.but bs V4);have FL:=J (dH (b:=w.heap.size+1+1+1) (BW.out.trans (hb2.mono BW.out.size)) (by omega) (Q U b.me) (D p1 q1 s1) (D p2 q2 s2) (D p3 q3 s3) (D p4 q4 s4) (D p5 q5 s5));have F2:=J (bs.box (T2.out.on hb2) (by omega));have L1:=J (show w.heap.size+1+1+1<w1.heap.size from T4.out.lt);clear V4 bs cp hb2 T1 T2 T4 HB;go_upto_region 6 with fail;clear z0 z1 z2 z3 z4 z5 VW VX VY VZ V7 Wd Wh;unfold gV at FB FC FL F2;generalize ((((((w2).setCell ⟨w.heap.size+1+1+1,0,ah⟩ (Q U b.me)).setCell ⟨w.heap.size+1+1+1,1,ah⟩ (D p1 q1 s1)).setCell ⟨w.heap.size+1+1+1,2,ah⟩ (D p2 q2 s2)).setCell ⟨w.heap.size+1+1+1,3,ah⟩ (D p3 q3 s3)).setCell ⟨w.heap.size+1+1+1,4,ah⟩ (D p4 q4 s4)).setCell ⟨w.heap.size+1+1+1,5,ah⟩ (D p5 q5 s5)=w3 at *;obtain⟨le,hle1,hle2⟩:=FC.out.ent;have hq4:le.length=q4:=iX (Row.dJ hle1);have hlm:le.length=b.ent.length:=hle2.len;obtain⟨g,rfl,hBg⟩:∃ g,p4=ay ⟨g,0,ah⟩/\w1.heap.size<=g:=vE hle1 (show 0<q4 by omega);have KQ:=J (show k<q4 by omega);have DE:=J (acR w1.heap.size g q4 s4 k le w3 hle1 (by omega) (by have:=HF.out.ent; omega));have wo:=J hle1;have HL2:=J hle2;have BG:=J hBg;have N9:=J (show q4<=900 by have:=HF.out.ent; omega);have x4:=FB.out.cell 4;simp only [O,K,L] at x4;have hw3:IntKind.i64.wrap ((k:Int)+1)=(k:Int)+1:=IntWalk.i64_in _ (by have:=HF.out.ent; omega);clear hle1 hle2 hq4 hlm hBg;go_wp2_with fail;refine DE.out.mono ?_;rintro e4 w4 ⟨rfl,hown,kV,hlow⟩;have hoff:Off (dX (ay ⟨g,0,ah⟩,q4,s4)).ownBlock w3 w4:=⟨fun j hj hne=>kV.1 j hj fun e=>hne (by rw [e]; rfl),kV.2⟩;have TG:=jF wo.out;have CP:=J (FC.out.acg (ev':=(ay ⟨g,0,ah⟩,q4-1,s4)) (el:=cutAt b.ent k) hoff ⟨cutAt le k,hown,(fun {h}=>((h:eY _ le b.ent).take k).append (h.drop (k+1))) (h:=HL2.out.mono fun _ _ q=>q.off hoff TG (by decide))⟩);have G8:=kV.box FB.out (show w.heap.size+1+1+1≠g by have:=BG.out; have:=L1.out; omega);have G2:=kV.box F2.out (show w.heap.size+1≠g by have:=BG.out; have:=L1.out; omega);have BL:=hlow w.heap.size w (by have:=BG.out; have:=L1.out; omega) FL.out;clear x4 hw3;have x4:=G8.cell 4;have Ov:=G8.fr 4;have xlt:=G8.lt;simp only [O,K,L] at x4;have bs:=eF w4 (w.heap.size+1+1+1) 4 (D (ay ⟨g,0,ah⟩) (q4-1) s4);have CP5:=J (CP.out.but bs G8);have G25:=J (bs.box G2 (by omega));have BL5:=J (BL.setCell (p:=⟨w.heap.size+1+1+1,4,ah⟩) (show w.heap.size<=w.heap.size+1+1+1 by omega) (D (ay ⟨g,0,ah⟩) (q4-1) s4));have G85:=J (show dK (w4.setCell ⟨w.heap.size+1+1+1,4,ah⟩ (D (ay ⟨g,0,ah⟩) (q4-1) s4)) (w.heap.size+1+1+1) #[Q U b.me,D p1 q1 s1,D p2 q2 s2,D p3 q3 s3,D (ay ⟨g,0,ah⟩) (q4-1) s4,D p5 q5 s5] 30 by simpa using eu (k:=4) G8 (D (ay ⟨g,0,ah⟩) (q4-1) s4));have S5:=J (show w1.heap.size<=(w4.setCell ⟨w.heap.size+1+1+1,4,ah⟩ (D (ay ⟨g,0,ah⟩) (q4-1) s4)).heap.size by have:=kV.2; have h2:=FL.out.size; obtain⟨cur,hg⟩:=jL hown; have:=hg.lt; have:=BG.out; simp; omega);clear hown kV hlow hoff TG CP G8 G2 BL bs FB FC FL F2 wo HL2 DE le;go_upto_region 7 with fail;clear x4 Ov xlt;generalize w4.setCell ⟨w.heap.size+1+1+1,4,ah⟩ (D (ay ⟨g,0,ah⟩) (q4-1) s4)=w5 at *;obtain⟨n4,hn4⟩:∃ n,n=q4-1:=⟨_,rfl⟩;rw [<- hn4] at G85 CP5 ⊢;have NN:=J hn4;clear hn4;cases y7
   ·have LQ:=J (show takeB b (c,d) (g0,h0) f=({ b with ent:=cutAt b.ent k },[],ak) from by
     rw [<- yG HR.out];unfold H9;rw [FE.out];simp only;rw [if_neg (by rw [EF.out]; simpa using YF.out),if_pos EU.out,HK.out])
    have G8:=J G85.out;have BQ:=J BL5.out;clear G85 BL5 S5;generalize w5=wq at *;have Q3:=G8.out;obtain⟨z0,z1,z2,z3,z4,z5⟩:=Q3.fD;obtain⟨VW,VX,VY,VZ,V7,Wd⟩:=Q3.kK;have Wh:=Q3.lt;have bs:=fu wq (w.heap.size+1+1+1) (Q U b.me) (D p1 q1 s1) (D p2 q2 s2) (D p3 q3 s3) (D (ay ⟨g,0,ah⟩) n4 s4) (D p5 q5 s5);have FB:=J (dL Q3 (Q U b.me) (D p1 q1 s1) (D p2 q2 s2) (D p3 q3 s3) (D (ay ⟨g,0,ah⟩) n4 s4) (D p5 q5 s5));have FC:=J (CP5.out.but bs Q3);have FL:=J (dH (b:=w.heap.size+1+1+1) BQ.out (by omega) (Q U b.me) (D p1 q1 s1) (D p2 q2 s2) (D p3 q3 s3) (D (ay ⟨g,0,ah⟩) n4 s4) (D p5 q5 s5));clear Q3 bs;go_wp2_with fail;clear z0 z1 z2 z3 z4 z5;obtain⟨T,a0,a3,a4,a5,a6⟩:=FB.out.fD;refine bodyPost_ret (v:=.tuple #[aU #[Q U b.me,D p1 q1 s1,D p2 q2 s2,D p3 q3 s3,D (ay ⟨g,0,ah⟩) n4 s4,D p5 q5 s5],D ah 0 0,aj ak]) (by simp [results,aD,go_sem,T,a0,a3,a4,a5,a6]) rfl ?_;rw [LQ.out];exact⟨⟨(p1,q1,s1),(p2,q2,s2),(p3,q3,s3),(ay ⟨g,0,ah⟩,n4,s4),(p5,q5,s5),(ah,0,0),[],rfl,FC.out.vbr,jo _,.nil,fun _=>⟨_,FC.out.near⟩,fun _=>⟨_,_,FC.out⟩,iO _ _,w,.nil⟩,FL.out⟩
   ·obtain⟨m,hm⟩:∃ m,cutAt b.ent k=m:=⟨_,rfl⟩;rw [hm] at CP5;have RM:=J (show jl m by rw [<- hm]; exact HR.out.sublist (tQ _ _));have OM:=J (show ∀ e∈m,dR e.p by rw [<- hm]; exact fun e he=>OK.out e (pW he));have LQ:=J (show takeB b (c,d) (g0,h0) f=({ b with ent:=m.take (jA m (c,d))++(iL (qN m (c,d)) (qN m (c,d)).length).1++m.drop (jA m (c,d)+(qN m (c,d)).length) },(iL (qN m (c,d)) (qN m (c,d)).length).2,aR) from by
     rw [<- yG HR.out];unfold H9;rw [FE.out];simp only;rw [if_neg (by rw [EF.out]; simpa using YF.out),if_neg (by rw [EU.out]; simp),HK.out,hm])
    have LM:=J (show m.length=n4 by rw [<- hm]; obtain⟨l,h1,h2⟩:=CP5.out.ent; rw [hm,<- h2.len]; exact iX (Row.dJ h1));clear hm;obtain⟨l5,hl1,hl2⟩:=CP5.out.ent
    replace hl2:eY (tK (vw w) w1.heap.size w5) l5 m:=hl2
    replace hl1:jH w5 w1.heap.size (D (ay ⟨g,0,ah⟩) n4 s4) l5:=hl1
    have hin:eY (jJ w5) l5 m:=hl2.mono fun _ _ q=>Dq q (Cq BL5.out);have hfk:=zM m (c,d);have h9:=N9.out;have hnn:=NN.out;have hlm:=LM.out;have hll:l5.length=m.length:=hl2.len;have hcap:n4<=s4:=by
     rcases gB hl1 with⟨h1,_⟩|⟨g',cap',cur,h1,_,_,h4,_⟩
     ·cases h1
     ·obtain⟨_,_,rfl⟩:g=g'/\n4=l5.length/\s4=cap':=by simpa using h1
      omega
    have BR_:=J (Dn (ay ⟨g,0,ah⟩,n4,s4) l5 m (c,d) w5 (Row.dJ hl1) hin RM.out (by omega));have eb:(m.drop (jA m (c,d))).take (qN m (c,d)).length=qN m (c,d):=by
     unfold qN
     conv=>lhs; arg 2; rw [<- List.takeWhile_append_dropWhile (p:=fun e:En=>decide (e.tree=(c,d))) (l:=m.drop (jA m (c,d)))]
     rw [List.take_left]
    have RA:=J (fun (w6:aF) (hb:Below w5.heap.size w5 w6) (ra:Option Addr) (rc:Nat) hra=>UY (vw w) w1.heap.size g n4 s4 (jA m (c,d)) (qN m (c,d)).length ra rc l5 m w6 (Cq (BL5.out.trans (hb.mono BL5.out.size))) (Nat.zero_le _) (Bk.dI hl1 hb) (hl2.mono fun _ _ q=>q.grow hb) (by omega) (by omega) hra OM.out);rw [eb] at RA;generalize hf5:jA m (c,d)=f5 at *;generalize hb5:qN m (c,d)=bm at *;have HC:=J hcap;have HFK:=J hfk;clear hl1 hl2 hin h9 hnn hlm hll hfk eb hf5 hb5 hcap;have x4:=G85.out.cell 4;simp only [O,K,L] at x4;have y1:=G25.out.cell 1;have y0:=G25.out.cell 0;simp only [O,K,L] at y0 y1;unfold cutV at BR_;simp only at BR_;obtain⟨ra,hra⟩:∃ x,(if s4=f5 then (⟨g,0,ah⟩:Addr) else (⟨g,0,ah⟩:Addr).add (f5 * 7))=x:=⟨_,rfl⟩;rw [hra] at BR_;have HRA:=J hra;clear hra;go_wp2_with fail;refine BR_.out.mono ?_;rintro e6 w6 ⟨rfl,hb⟩;have RB:=RA.out w6 hb (ay ra) (s4-f5) (fun hK=>⟨by rw [<- HRA.out,if_neg (by have:=HC.out; have:=HFK.out; have:=LM.out; omega),lY],rfl⟩);have H6:=J hb;have C6:=J (CP5.out.grow hb);have G86:=J (G85.out.on hb);have BL6:=J (BL5.out.trans (hb.mono BL5.out.size));clear x4 y0 y1 hb BR_ RA;go_wp2_with fail;refine RB.mono ?_;rintro e7 wq ⟨⟨I9,Ja,vo3⟩,rfl,hRa⟩;obtain⟨⟨lq,hq1,hq2⟩,⟨lu,hu1,hu2⟩,kV,hlow⟩:=hRa;have hoff:Off (dX (ay ⟨g,0,ah⟩,n4,s4)).ownBlock w6 wq:=⟨fun j hj hne=>kV.1 j hj fun e=>hne (by rw [e]; rfl),kV.2⟩;have CQ:=J (C6.out.acg (ev':=(ay ⟨g,0,ah⟩,n4,s4)) hoff ⟨lq,hq1,hq2⟩);have G8:=J (kV.box G86.out (show w.heap.size+1+1+1≠g by have:=BG.out; have:=L1.out; omega));have BQ:=J (hlow w.heap.size w (by have:=BG.out; have:=L1.out; omega) BL6.out);have UP1:=J hu1;have UP2:=J hu2;have L6:=J BL6.out.size;clear hq1 hq2 hu1 hu2 kV hlow hoff RB C6 G86 BL6 G85 CP5 BL5 H6;have Q3:=G8.out;obtain⟨z0,z1,z2,z3,z4,z5⟩:=Q3.fD;obtain⟨VW,VX,VY,VZ,V7,Wd⟩:=Q3.kK;have Wh:=Q3.lt;have bs:=fu wq (w.heap.size+1+1+1) (Q U b.me) (D p1 q1 s1) (D p2 q2 s2) (D p3 q3 s3) (D (ay ⟨g,0,ah⟩) n4 s4) (D p5 q5 s5);have FB:=J (dL Q3 (Q U b.me) (D p1 q1 s1) (D p2 q2 s2) (D p3 q3 s3) (D (ay ⟨g,0,ah⟩) n4 s4) (D p5 q5 s5));have FC:=J (CQ.out.but bs Q3);have FL:=J (dH (b:=w.heap.size+1+1+1) BQ.out (by omega) (Q U b.me) (D p1 q1 s1) (D p2 q2 s2) (D p3 q3 s3) (D (ay ⟨g,0,ah⟩) n4 s4) (D p5 q5 s5));have FU:=J (bs.own UP1.out Q3 (by decide));have FV:=J (UP2.out.mono fun _ _ q=>tK.but q bs Q3 (by decide));clear Q3 bs;go_wp2_with fail;clear z0 z1 z2 z3 z4 z5;obtain⟨T,a0,a3,a4,a5,a6⟩:=FB.out.fD;refine bodyPost_ret (v:=.tuple #[aU #[Q U b.me,D p1 q1 s1,D p2 q2 s2,D p3 q3 s3,D (ay ⟨g,0,ah⟩) n4 s4,D p5 q5 s5],D I9 Ja vo3,aj aR]) (by simp [results,aD,go_sem,T,a0,a3,a4,a5,a6]) rfl ?_;rw [LQ.out];exact⟨⟨(p1,q1,s1),(p2,q2,s2),(p3,q3,s3),(ay ⟨g,0,ah⟩,n4,s4),(p5,q5,s5),(I9,Ja,vo3),lu,rfl,FC.out.vbr,Row.dJ FU.out,FV.out.mono fun _ _ q=>Dq q (Cq FL.out),fun _=>⟨_,FC.out.near⟩,fun _=>⟨_,_,FC.out⟩,dM FU.out L6.out,w,FV.out.mono fun _ _ q=>tK.less q L6.out⟩,FL.out⟩
  ·have hne:(y6 != f)=aR:=by simp [hyf]
   have YF:=J hyf;clear hyf x4;have LQ:=J (show takeB b (c,d) (g0,h0) f=(b,[],ak) from by
    rw [<- yG HR.out];unfold H9;rw [FE.out];simp only;rw [if_pos (by rw [EF.out]; exact YF.out)])
   have Q1:=T1.out;have Q3:=T4.out;obtain⟨x0,x1,x2,x3,x4,x5⟩:=Q1.fD;obtain⟨z0,z1,z2,z3,z4,z5⟩:=Q3.fD;obtain⟨VW,VX,VY,VZ,V7,Wd⟩:=Q3.kK;have Wh:=Q3.lt;have FB:=J (dL Q3 (Q U b.me) (D no nn nc) (D ao an ac) (D so sn sc) (D eo en ec) (D oo eG oc));have FL:=J (dH (b:=w.heap.size+1+1+1) BW.out (by omega) (Q U b.me) (D no nn nc) (D ao an ac) (D so sn sc) (D eo en ec) (D oo eG oc));clear Q1 Q3;go_wp2_with fail;clear z0 z1 z2 z3 z4 z5;obtain⟨T,a0,a3,a4,a5,a6⟩:=FB.out.fD;refine bodyPost_ret (v:=.tuple #[aU #[Q U b.me,D no nn nc,D ao an ac,D so sn sc,D eo en ec,D oo eG oc],D ah 0 0,aj ak]) (by simp [results,aD,go_sem,T,a0,a3,a4,a5,a6]) rfl ?_;rw [LQ.out];exact⟨⟨(no,nn,nc),(ao,an,ac),(so,sn,sc),(eo,en,ec),(oo,eG,oc),(ah,0,0),[],rfl,HH.out.on FL.out,jo _,.nil,fun h=>h.on FL.out,fun h=>(h.resolve_right (by simp)).on FL.out,iO _ _,w,.nil⟩,FL.out⟩
theorem Dt {m:List En} (hr:jl m) {i j:Nat} {x y:En} (hx:m[i]?=ay x) (hy:m[j]?=ay y) (h:dY x=dY y):i=j:=by
 rcases Nat.lt_trichotomy i j with q|q|q
 ·have:=(lZ x y).2 (zJ hr q hx hy);rw [h,su] at this;cases this
 ·exact q
 ·have:=(lZ y x).2 (zJ hr q hy hx);rw [h,su] at this;cases this
theorem Ia {m:List En} (hr:jl m) {e:En} (he:e∈m):yF m e.tree e.sub=ay e/\jQ m e.tree e.sub=aR:=by
 have ft:=tO hr e.tree e.sub;have hk:dY e∈m.map dY:=List.mem_map.2 ⟨e,he,rfl⟩;have ht:jQ m e.tree e.sub=aR:=by
  cases h:jQ m e.tree e.sub with
  | true=>rfl
  | false =>
   rw [h,if_neg (by simp)] at ft;rcases mH (m.map dY) (dY e) with q|⟨k,q,r⟩
   ·exfalso;obtain⟨j,hj⟩:=au.1 hk;have:∀ l:List (eU×eU),jc l (dY e)=-1->dY e ∉ l:=by
     intro l
     induction l with
     | nil=>intro _ h; simp at h
     | cons a l ih =>
      intro h2 h3;rw [jc] at h2
      split at h2
      ·cases h2
      ·rename_i hne
       split at h2
       ·rename_i h4
        rcases aS.1 h3 with h5|h5
        ·exact hne h5.symm
        ·exact ih h4 h5
       ·rename_i h4
        rcases mH l (dY e) with h5|⟨k,h5,_⟩
        ·exact h4 h5
        ·rw [h5] at h2; omega
    exact this _ q hk
   ·rw [show jc (m.map dY) (e.tree,e.sub)=jc (m.map dY) (dY e) from rfl,q] at ft;omega
 obtain⟨e',h1,h2,h3⟩:=sG ht;obtain⟨j,hj⟩:=au.1 he;have hij:=Dt hr h1 hj h2;rw [hij,hj] at h1;obtain rfl:=Option.some.inj h1;exact⟨h3,ht⟩
theorem Pg {m:List En} {t s:eU} (h:∀ e∈m,dY e≠(t,s)):jQ m t s=ak:=by
 unfold jQ;cases hm:m[dZ (m.map dY) (t,s)]? with
 | none=>rfl
 | some e=>exact decide_eq_false (h e (aM hm))
theorem acU {m:List En} (hr:jl m) {j:Nat} {x:En} (hx:m[j]?=ay x):∀ y∈cutAt m j,dY y≠dY x:=by
 intro y hy h;unfold cutAt at hy;rcases List.mem_append.1 hy with q|q
 ·obtain⟨i,hi⟩:=au.1 q;have hl:=(aA.1 hi).1;rw [aQ] at hl;rw [aI (by omega)] at hi;have:=Dt hr hi hx h;omega
 ·obtain⟨i,hi⟩:=au.1 q;rw [aO] at hi;have:=Dt hr hi hx h;omega
theorem U7 {l:List En} (hr:jl l) (x:En) (hn:∀ y∈l,dY y≠dY x):jl (fM l (dZ (l.map dY) (dY x)) x):=by
 unfold fM;have lo:∀ y∈l.take (dZ (l.map dY) (dY x)),yB y x<0:=by
  intro y hy;obtain⟨i,hi⟩:=au.1 hy;have hl:=(aA.1 hi).1;rw [aQ] at hl;rw [aI (by omega)] at hi;exact (lZ y x).1 (qp (l.map dY) (dY x) i (dY y) (by omega) (by rw [aG,hi]; rfl))
 have hi:∀ y∈l.drop (dZ (l.map dY) (dY x)),yB x y<0:=by
  intro y hy;obtain⟨i,hi⟩:=au.1 hy;rw [aO] at hi;have h1:=vI hr (dY x) (Nat.le_add_right _ i) hi;have h2:=hn y (aM hi);rw [qZ];have h3:¬ (yB y x<0):=fun q=>by rw [(lZ y x).2 q] at h1; cases h1
  rw [qZ] at h3;rcases mW x.tree y.tree with q|q|q
  ·exact aN q
  ·refine aK ⟨q,?_⟩;rcases mW x.sub y.sub with r|r|r
   ·exact r
   ·exact absurd (Prod.ext q.symm r.symm) h2
   ·exact absurd (aK ⟨q.symm,r⟩) h3
  ·exact absurd (aN q) h3
 rw [aH];show List.Pairwise (fun x y=>yB x y<0) _;rw [List.pairwise_append];refine⟨hr.sublist (List.take_sublist _ _),?_,fun a ha b hb=>?_⟩
 ·rw [aJ,List.pairwise_cons];exact⟨fun b hb=>hi b hb,hr.sublist (List.drop_sublist _ _)⟩
 ·rw [aJ,aS] at hb;rcases hb with rfl|hb
  ·exact lo a ha
  ·exact CY _ _ _ (lo a ha) (hi b hb)
theorem U8 {b:Br} (hr:jl b.ent) (e:En) (hn:∀ y∈b.ent,dY y≠dY e) :
  (gJ b.dO e.tree=ah/\iB b e=(b,ak))\/(∃ a,gJ b.dO e.tree=ay a/\e.from_=a.par/\a.par≠-1/\iB b e=(b,ak)) \/
  (∃ a u,gJ b.dO e.tree=ay a/\(e.from_=-1\/e.from_≠a.par)/\(u=aR->a.par≠-1)/\iB b e=({ b with ent:=fM b.ent (dZ (b.ent.map dY) (dY e)) { e with up:=u } },u)/\u=(!(a.par == -1) && !fA b.ent e.tree e.p)):=by
 have ht:jQ b.ent e.tree e.sub=ak:=Pg hn;rw [<- tT hr];unfold Jw;cases hf:gJ b.dO e.tree with
 | none=>exact aN ⟨rfl,rfl⟩
 | some a =>
  right;simp only;rw [if_neg (by rw [ht]; simp)];by_cases hp:e.from_=a.par/\a.par≠-1
  ·rw [if_pos hp];exact aN ⟨a,rfl,hp.1,hp.2,rfl⟩
  ·rw [if_neg hp];refine aK ⟨a,_,rfl,?_,fun h=>?_,rfl,rfl⟩
   ·by_cases h1:e.from_=a.par
    ·left;rw [h1];exact Decidable.byContradiction fun q=>hp ⟨h1,q⟩
    ·exact aK h1
   ·intro q;rw [q] at h;simp at h
end Go.Proofs.YtghlpefopidlaaaGreat.Sb
