/-
  Find of package adve. Conditions as told.
-/
import Derived.Test.YtkcfgbddlpomgaaGreatCQ016
import Derived.Test.YtkcfgbddlpomgaaGreatCQ019
import Derived.Test.YtkcfgbddlpomgaaGreatCQ017
set_option maxRecDepth 100000
set_option maxHeartbeats 64000000
open _root_.Bool renaming false->aD,true->aU
open _root_.Go renaming below_regrown->ay,cell_regrown->aG,bodyPost_ret->aM,World->aN,Value->aY,redrawn->bH
open Go.Act renaming eval->aJ
open Go.Builtin renaming append_->aA
open Go.DataW renaming trod->bg,trod_int->bD,trod_struct->bQ
open Go.Ending renaming returned->bG
open Go.Instr renaming indexAt->bR
open Go.IntKind renaming i64->O
open Go.Lib renaming hid->L
open Go.Obj renaming cells->Z
open Go.Operand renaming tmp->aH
open Go.Proofs.Tryz renaming prog->aj,results57->aX,underlying3->bn,results93->bO
open Go.Proofs.YtkcfgbddlpomgaaGreat.Rg renaming cZ->bE
open Go.Proofs.YtkcfgbddlpomgaaGreat.Rw renaming wpList_append_run->bf
open Go.Proofs.YtkcfgbddlpomgaaGreat.Rw.Row renaming dn->aQ
open Go.RowKit.Below renaming refl->ah,heap_setCell->au
open Go.Value renaming slice->J,int->V,bool->aB,pointer->aK,string->aS,agg->bA
open _root_.Int renaming toNat_natCast->bI
open _root_.List renaming getElem?_eq_getElem->ak,length_map->aC,getElem?_cons_zero->aL,getElem?_cons_succ->aP,getElem?_map->aR,getElem?_toArray->aT,getElem?_eq_some_iff->aV,mem_of_getElem?->aW,map_cons->bC,mem_append->bK,drop_succ_cons->bL,take_succ_cons->bN,mem_or_eq_of_mem_set->bP,length_take->bS,map_toArray->bT,map_append->bV,mem_of_mem_take->bW,mem_of_mem_drop->bY,drop_zero->bZ,take_zero->cu,mem_singleton->cK,set_cons_succ->cO
open _root_.Nat renaming le_trans->aF,le_refl->aI,lt_of_lt_of_le->bF,zero_le->bJ,le_of_lt->bU
open _root_.Option renaming some->X,none->Y
open Option.some renaming inj->aZ
open _root_.Or renaming inr->aO,inl->cB
namespace Go.Proofs.YtkcfgbddlpomgaaGreat
namespace Av
open Go.RowKit Go.Sort Rw YtkcfgbddlpomgaaGreat.Nm Pr Bk
def gu (l:List Ad) (x:eF):Option Ad:=l.find? fun a=>decide (a.id=x)
theorem ug {l:List Ad} {x:eF} (h:∀ (j:Nat) (a:Ad),l[j]?=X a->a.id≠x):gu l x=Y:=by
 unfold gu;rw [List.find?_eq_none];intro a ha;obtain⟨j,hj⟩:=List.mem_iff_getElem?.1 ha;simpa using h j a hj
theorem rP:∀ {l:List Ad} {x:eF} {k:Nat} {a:Ad},l[k]?=X a->a.id=x->(∀ (j:Nat) (z:Ad),j<k->l[j]?=X z->z.id≠x)->gu l x=X a
 | [],_,_,_,h,_,_=>by simp at h
 | b::l,x,0,a,h,hx,_=>by
  obtain rfl:b=a:=by simpa using h
  simp [gu,hx]
 | b::l,x,k+1,a,h,hx,hall=>by
  have hb:=hall 0 b (by omega) rfl;have ih:=rP (l:=l) (x:=x) (k:=k) (a:=a) (by simpa using h) hx fun j z hj hz=>hall (j+1) z (by omega) (by simpa using hz);unfold gu at *;rw [List.find?_cons_of_neg (by simpa using hb)];exact ih
def ab3 (W:aN) (o:Option Ad) (w:aN) (e:Ending) (w':aN):Prop:=(match o with
 | none=>e=bG (.tuple #[mD (0,0,(Y,0,0),0),aB aD])
 | some a=>∃ r:jv,e=bG (.tuple #[mD r,aB aU])/\sW w' r a)/\Below W.heap.size w w'
theorem Gm (me:Int) (nv sv ev ov:aY) (av:Sl) (l:List jv) (al:List Ad) (x:eF) (w:aN) (hs:uH w (dK av) l) (hA:dX (sW w) l al) (hf:∀ a∈al,a.p.length<=900) :
  Calls aj 16 #[bA #[V O me,nv,dK av,sv,ev,ov],lZ x] w (ab3 w (gu al x) w):=by
 obtain⟨c,d⟩:=x;obtain⟨so,sn,sc⟩:=av;obtain⟨ao,ac,hv⟩:=hs.len;have hv:J so sn sc=J ao l.length ac:=hv;obtain⟨rfl,rfl,rfl⟩:so=ao/\sn=l.length/\sc=ac:=by simpa using hv
 obtain⟨h0,h1,h2⟩:=gG w #[V O me,nv,J so l.length sc,sv,ev,ov] #[V O c,V O d] 33 38;have h3:=fT ((w.alloc (Z #[V O me,nv,J so l.length sc,sv,ev,ov] 33)).alloc (Z #[V O c,V O d] 38)) (Z #[V O 0,V O 0,J Y 0 0,V O 0] 53);have h4:=dI ((w.alloc (Z #[V O me,nv,J so l.length sc,sv,ev,ov] 33)).alloc (Z #[V O c,V O d] 38)) #[V O 0,V O 0,J Y 0 0,V O 0] 53;have hsz:((w.alloc (Z #[V O me,nv,J so l.length sc,sv,ev,ov] 33)).alloc (Z #[V O c,V O d] 38)).heap.size=w.heap.size+1+1:=by simp
 rw [hsz] at h4;have B:=L (h0.trans (h3.mono h0.size));have HS:=L (hs.on B.out);have HA:=L (hA.mono fun _ _ h=>h.on B.out);have X2:=L (h1.on h3);have X3:=L (h2.on h3);have X4:=L h4;have HF:=L hf;have lm:=hs.most;unfold maxLen at lm;obtain⟨n,hn⟩:∃ n,n=l.length:=⟨_,rfl⟩;have q3:=X2.out.cell 2;simp only [aT,aL,aP] at q3;rw [<- hn] at HS X2 X3 X4 HA lm q3 B ⊢;have HN:=L hn.symm;obtain⟨fo,hfo⟩:∃ o,o=gu al (c,d):=⟨_,rfl⟩;rw [<- hfo];have FO:=L hfo;clear h0 h1 h2 h3 h4 hs hv hn hA hf hsz hfo;go_enter Tryz.func16,Tryz.ntmps16;go_upto_region 1 with fail;generalize ((w.alloc (Z #[V O me,nv,J so n sc,sv,ev,ov] 33)).alloc (Z #[V O c,V O d] 38)).alloc (Z #[V O 0,V O 0,J Y 0 0,V O 0] 53)=W at *;go_wp2
 go_loopw [11] (fun i wr=>∃ k:Nat,k<=n/\i=V O k/\Below W.heap.size W wr/\∀ (j:Nat) (y:jv),j<k->l[j]?=X y->(y.1,y.2.1)≠(c,d)) (fun i _=>n-(intOf i).toNat)
 case atStart=>exact⟨0,bJ _,rfl,ah _ _,fun j y h=>by omega⟩
 case round =>
  obtain⟨k,hk,rfl,hbe,hall⟩:=hrel;have BE:=L hbe;have AL:=L hall;clear hbe hall;by_cases hlt:k<n
  ·obtain⟨y,hy⟩:∃ y,l[k]?=X y:=⟨_,ak (by rw [HN.out]; exact hlt)⟩;obtain⟨p,ix,px⟩:=PI HS.out rfl HN.out hy;obtain⟨p0,p1,p2,p3⟩:=px wr BE.out;obtain⟨y1,y2,⟨yo,yn,yc⟩,y4⟩:=y;simp only at p0 p1 p2 p3;have NB:=L (fT wr (Z #[V O y1,V O y2,J yo yn yc,V O y4] 53));obtain⟨x0,x1⟩:=((X3.out.on BE.out).on NB.out).cs2;have hw3:IntKind.i64.wrap ((k:Int)+1)=(k:Int)+1:=IntWalk.i64_in _ (by omega);obtain⟨r,hr⟩:∃ r,(y1 == c && y2 == d)=r:=⟨_,rfl⟩;have he:=rG y1 y2 c d r hr;have HY:=L hy;have HR:=L hr;clear px hy hr;cases r
   ·go_wp2
    go_roundw
    case rel=>exact⟨k+1,by omega,by go_num,BE.out.trans (NB.out.mono BE.out.size),fun j y' hj h1=>by
     rcases Nat.lt_or_ge j k with h3|h3
     ·exact AL.out j y' h3 h1
     ·obtain rfl:j=k:=by omega
      have e1:=HY.out;rw [h1] at e1;rw [aZ e1];intro e;obtain⟨rfl,rfl⟩:y1=c/\y2=d:=by simpa using e
      have:=HR.out;simp at this⟩
    case measure=>simp [intOf]; omega
   ·obtain⟨a,ha⟩:∃ a,al[k]?=X a:=⟨_,ak (by rw [<- HA.out.len,HN.out]; exact hlt)⟩;obtain⟨z,hz1,hz2⟩:=HA.out.at k a ha;rw [HY.out] at hz1;obtain rfl:=aZ hz1;have BA:=L (BE.out.trans (NB.out.mono BE.out.size));have C:=L (yR (y1,y2,(yo,yn,yc),y4) a.p _ (hz2.2.2.on BA.out) (HF.out a (aW ha)));have HZ:=L hz2;have h8:=HR.out;obtain⟨rfl,rfl⟩:y1=c/\y2=d:=by simpa using h8
    have FA:=L (show fo=X a by
     rw [FO.out];refine rP ha hz2.1.symm fun j z hj hzz=>?_;obtain⟨u,hu1,hu2⟩:=HA.out.at j z hzz;rw [<- hu2.1];exact AL.out j u hj hu1)
    have Vn:=(X4.out.on BE.out).on NB.out;clear hz1 hz2 ha h8;go_wp2_with fail;refine C.out.mono ?_;rintro e w1 ⟨⟨⟨u1,u2,u3⟩,rfl,ho⟩,hb⟩;have Y1:=Vn.on hb;have B1:=L (BA.out.trans (hb.mono BA.out.size));obtain⟨r0,r1,r2,r3⟩:=Y1.IQ;obtain⟨t0,t1,t2,t3⟩:=Y1.fs4;have zz:=Y1.lt;have hs2:w.heap.size+1+1<(wr.alloc (Z #[V O y1,V O y2,J yo yn yc,V O y4] 53)).heap.size:=Vn.lt;have FB:=L (yQ Y1 (V O y1) (V O y2) (J u1 u2 u3) (V O y4));have BL:=L (tY (b:=w.heap.size+1+1) (B.out.trans (B1.out.mono B.out.size)) (by omega) (V O y1) (V O y2) (J u1 u2 u3) (V O y4));have FW:=L (FZ ho (w.heap.size+1+1) hs2 (V O y1) (V O y2) (J u1 u2 u3) (V O y4));clear Y1 ho hb hs2 Vn;go_wp2_with fail;obtain⟨v0,v1,v2,v3⟩:=FB.out.IQ;refine aM (v:=.tuple #[bA #[V O y1,V O y2,J u1 u2 u3,V O y4],aB aU]) (by simp [results,Tryz.results16,go_sem,v0,v1,v2,v3]) rfl ?_;rw [FA.out];exact⟨⟨(y1,y2,(u1,u2,u3),y4),rfl,HZ.out.1,HZ.out.2.1,aQ FW.out⟩,BL.out⟩
  ·obtain rfl:k=n:=by omega
   have FA:=L (show fo=Y by
    rw [FO.out];refine ug fun j z hzz=>?_;obtain⟨u,hu1,hu2⟩:=HA.out.at j z hzz;rw [<- hu2.1];exact AL.out j u (by rw [<- HN.out]; exact (aV.1 hu1).1) hu1)
   have Y1:=X4.out.on BE.out;obtain⟨r0,r1,r2,r3⟩:=Y1.IQ;obtain⟨t0,t1,t2,t3⟩:=Y1.fs4;have zz:=Y1.lt;have FB:=L (yQ Y1 (V O 0) (V O 0) (J Y 0 0) (V O 0));have BL:=L (tY (b:=w.heap.size+1+1) (B.out.trans (BE.out.mono B.out.size)) (by omega) (V O 0) (V O 0) (J Y 0 0) (V O 0));clear Y1;go_wp2_with fail;obtain⟨v0,v1,v2,v3⟩:=FB.out.IQ;refine aM (v:=.tuple #[bA #[V O 0,V O 0,J Y 0 0,V O 0],aB aD]) (by simp [results,Tryz.results16,go_sem,v0,v1,v2,v3]) rfl ?_;rw [FA.out];exact⟨rfl,BL.out⟩
end Av
namespace Bk
open Go.RowKit Go.Sort Rw YtkcfgbddlpomgaaGreat.Nm Pr
abbrev eY (e:En):Id×Id:=(e.tree,e.sub)
theorem keys_eq {W:aN} {l:List iB} {m:List En} (h:dX (iX W) l m):l.map iF=m.map eY:=by
 induction h with
 | nil=>rfl
 | cons x t ih=>rw [bC,bC,ih,show iF _=eY _ from Prod.ext x.1 x.2.1]
def gN (b:Br) (e:En):Br×Bool:=match b.dL[(eU (b.dL.map Ad.id) e.tree).toNat]? with
 | none=>(b,aD)
 | some a=>if eU (b.dL.map Ad.id) e.tree=-1 then (b,aD) else if iH (b.ent.map eY) (eY e)≠-1 then (b,aD) else if e.from_≠-1/\e.from_=a.par then (b,aD) else
  ({ b with ent:=fP b.ent (eG (b.ent.map eY) (eY e)) { e with up:=decide (a.par≠-1) && !eP b.ent e.tree e.p } },decide (a.par≠-1) && !eP b.ent e.tree e.p)
theorem nI (l:List (Id×Id)) (x:Id×Id):eG l x<=l.length:=by
 unfold eG;exact (List.takeWhile_sublist _).length_le
theorem lT {W:aN} {b:Nat} {c d g h f:Int} {p:Sl} {u:Bool} (hb:dG W b #[V O c,V O d,V O g,V O h,dK p,V O f,aB u] 68):∀ x,Below W.heap.size W x->∀ j v,(iE (c,d,g,h,p,f,u))[j]?=X v->x.cell? ((⟨b,0,Y⟩:Addr).add j)=X v:=by
 intro x hx j v hj;rw [mZ,(hb.on hx).cell]
 match j with
 | 0=>exact hj
 | 1=>exact hj
 | 2=>exact hj
 | 3=>exact hj
 | 4=>exact hj
 | 5=>exact hj
 | 6=>exact hj
 | j+7=>simp at hj
theorem sJ (b:Br) (nv av sv ev ov:Sl) (z:iB) (e:En) (w:aN) (es:List iB) (R:iB->En->Prop) (h_:gZ w b nv av sv ev ov) (he1:jX w (dK ev) es) (he2:dX (iX w) es b.ent) (hr2:dX R es b.ent) (hrz:∀ u,R (z.1,z.2.1,z.2.2.1,z.2.2.2.1,z.2.2.2.2.1,z.2.2.2.2.2.1,u) { e with up:=u }) (hz:iX w z e) (l2:b.dL.length<=900) (l3:b.ent.length<=900) (hok:∀ e∈b.ent,dM e.p) (hop:dM e.p) :
  Calls aj 57 #[nG b.me nv av sv ev ov,qX z] w fun e' w'=>(∃ (ev':Sl) (xs:List iB),e'=bG (.tuple #[nG b.me nv av sv ev' ov,aB (gN b e).2])/\((ev'=ev/\xs=es/\(gN b e).1=b)\/jw w' w.heap.size (dK ev') xs)/\dX R xs (gN b e).1.ent)/\Below w.heap.size w w':=by
 obtain⟨no,nn,nc⟩:=nv;obtain⟨ao,an,ac⟩:=av;obtain⟨so,sn,sc⟩:=sv;obtain⟨eo,en,ec⟩:=ev;obtain⟨oo,dN,oc⟩:=ov;obtain⟨c,d,g,h,⟨po,pn,pc⟩,fr,XD⟩:=z;obtain⟨⟨tc,td⟩,⟨sg,sh⟩,p',fr',up'⟩:=e;obtain⟨hz1,hz2,hz3,hz4,hz5⟩:=hz;obtain⟨rfl,rfl⟩:c=tc/\d=td:=by simpa using hz1
 obtain⟨rfl,rfl⟩:g=sg/\h=sh:=by simpa using hz2
 obtain rfl:fr=fr':=hz3;obtain rfl:XD=up':=hz4;have HP:=L hz5;have HR2:=L hr2;have HRZ:=L hrz;clear hr2 hrz;obtain⟨xs,hx1,hx2⟩:=h_.dL;have Zt:=L (yH hx2);have Vb:=L (keys_eq he2);have XL:=L (show xs.length<=900 by rw [hx2.len]; exact l2);have EL:=L (show es.length<=900 by rw [he2.len]; exact l3);have HA2:=L hx2;have HE2:=L he2;have OK:=L hok;have OP:=L hop;obtain⟨q1,q2,hq⟩:=hx1.len;obtain⟨rfl,rfl,rfl⟩:ao=q1/\an=xs.length/\ac=q2:=by
  have:J ao an ac=J q1 xs.length q2:=hq;simpa using this
 clear hq;obtain⟨q1,q2,hq⟩:=he1.len;obtain⟨rfl,rfl,rfl⟩:eo=q1/\en=es.length/\ec=q2:=by
  have:J eo en ec=J q1 es.length q2:=hq;simpa using this
 clear hq;have FD:=pF b.me (J no nn nc) (J eo es.length ec) (J so sn sc) (J oo dN oc) (ao,xs.length,ac) xs (c,d);have EN:=yU b.me (J no nn nc) (J ao xs.length ac) (J so sn sc) (J oo dN oc) (eo,es.length,ec) es (c,d) (g,h);have CV:=fun W hb'=>uO b.me (J no nn nc) (J ao xs.length ac) (J so sn sc) (J oo dN oc) (eo,es.length,ec) es b.ent (c,d) (J po pn pc) p' W (he1.on (show Below w.heap.size w W from hb')) (he2.mono fun _ _ h=>h.on hb') (hz5.on hb') hok hop;have HH:=L h_;obtain⟨h0,h1,h2,h3⟩:=gL w #[V O b.me,J no nn nc,J ao xs.length ac,J so sn sc,J eo es.length ec,J oo dN oc] #[V O c,V O d,V O g,V O h,J po pn pc,V O fr,aB XD] #[V O 0,J Y 0 0,J Y 0 0,J Y 0 0,J Y 0 0,J Y 0 0] 33 68 33;obtain⟨n2,hn2⟩:∃ n,n=xs.length:=⟨_,rfl⟩;obtain⟨n3,Qb⟩:∃ n,n=es.length:=⟨_,rfl⟩;simp only [<- hn2,<- Qb] at h0 h1 h2 h3 hx1 he1 HH FD EN CV ⊢;have B0:=L h0;have X2:=L h1;have X3:=L h2;have X5:=L h3;have HS:=L hx1;have HE:=L he1;have N2:=L hn2;have N3:=L Qb;obtain⟨me,hme⟩:∃ me,me=b.me:=⟨_,rfl⟩;simp only [<- hme] at X2 B0 X3 X5 FD EN CV ⊢;have EN:=L EN;have CV:=L CV;clear h0 h1 h2 h3 hx1 he1 hx2 he2 h_ hn2 Qb l2 l3 hme hz1 hz2 hz5 hok hop;show Calls aj 57 #[bA #[V O me,J no nn nc,J ao n2 ac,J so sn sc,J eo n3 ec,J oo dN oc],bA #[V O c,V O d,V O g,V O h,J po pn pc,V O fr,aB XD]] w _;go_enter Tryz.func57,Tryz.ntmps57;go_upto_region 1 with fail;generalize (((w.alloc (Z #[V O me,J no nn nc,J ao n2 ac,J so sn sc,J eo n3 ec,J oo dN oc] 33)).alloc (Z #[V O c,V O d,V O g,V O h,J po pn pc,V O fr,aB XD] 68)).alloc (Z #[V O 0,J Y 0 0,J Y 0 0,J Y 0 0,J Y 0 0,J Y 0 0] 33))=W at *;have SW:=L (FD W (HS.out.on B0.out));clear FD;have x_:=X2.out;have y_:=X3.out;obtain⟨x0,x1,x2,x3,x4,x5⟩:=x_.eZ;obtain⟨y0,y1,y2,y3,y4,y5,y6⟩:=y_.mP;clear x_ y_;go_wp2_with fail;refine SW.out.mono ?_;rintro e1 w1 ⟨rfl,hb⟩;have B1:=L (B0.out.trans (hb.mono B0.out.size));have Y2:=L (X2.out.on hb);have Y3:=L (X3.out.on hb);have Y5:=L (X5.out.on hb);clear SW hb X2 X3 X5 x0 x1 x2 x3 x4 x5 y0 y1 y2 y3 y4 y5 y6;have a0:=aG (show w1.cell? ⟨w.heap.size,0,Y⟩=X (V O me) from Y2.out.cell 0);have a1:=aG (show w1.cell? ⟨w.heap.size,1,Y⟩=X (J no nn nc) from Y2.out.cell 1);have a2:=aG (show w1.cell? ⟨w.heap.size,2,Y⟩=X (J ao n2 ac) from Y2.out.cell 2);have a3:=aG (show w1.cell? ⟨w.heap.size,3,Y⟩=X (J so sn sc) from Y2.out.cell 3);have a4:=aG (show w1.cell? ⟨w.heap.size,4,Y⟩=X (J eo n3 ec) from Y2.out.cell 4);have a5:=aG (show w1.cell? ⟨w.heap.size,5,Y⟩=X (J oo dN oc) from Y2.out.cell 5);have b0:=aG (show w1.cell? ⟨w.heap.size+1,0,Y⟩=X (V O c) from Y3.out.cell 0);have b1:=aG (show w1.cell? ⟨w.heap.size+1,1,Y⟩=X (V O d) from Y3.out.cell 1);have b2:=aG (show w1.cell? ⟨w.heap.size+1,2,Y⟩=X (V O g) from Y3.out.cell 2);have b3:=aG (show w1.cell? ⟨w.heap.size+1,3,Y⟩=X (V O h) from Y3.out.cell 3);have b4:=aG (show w1.cell? ⟨w.heap.size+1,4,Y⟩=X (J po pn pc) from Y3.out.cell 4);have b5:=aG (show w1.cell? ⟨w.heap.size+1,5,Y⟩=X (V O fr) from Y3.out.cell 5);have b6:=aG (show w1.cell? ⟨w.heap.size+1,6,Y⟩=X (aB XD) from Y3.out.cell 6);have CE:=L (fun d os=>Calls.regrown_of (d:=d) (os:=os) (EN.out _ ((HE.out.on B1.out).on (ay w1 d os))));clear EN;rcases Dz xs (c,d) with hf|⟨k,y,hf,hy⟩
 ·have LB:=L (show gN b ⟨(c,d),(g,h),p',fr,XD⟩=(b,aD) by
   have hf':=hf;rw [Zt.out] at hf';unfold gN;simp only;rw [hf']
   split
   ·rfl
   ·rw [if_pos rfl])
  rw [hf];clear hf;go_upto_region 2 with fail;refine wp_region_quiet_below (by kernel_rfl) (by kernel_rfl) ?_
  repeat (go_big_quiet_step (fail))
  refine wpQuiet_nil ?_;intro _ hw';obtain⟨⟨dq,osq⟩,hw''⟩:=hw';subst hw'';have Z6:=ay w1 dq osq;have B2:=L (B1.out.trans (Z6.mono B1.out.size));have Z2:=L (Y2.out.on Z6);have Z3:=L (Y3.out.on Z6);have Z5:=L (Y5.out.on Z6);clear Z6 B1 Y2 Y3 Y5 a0 a1 a2 a3 a4 a5 b0 b1 b2 b3 b4 b5 b6;generalize grow (bH w1 dq) osq=w2 at *;have FB:=L (dH Z5.out (V O me) (J no nn nc) (J ao n2 ac) (J so sn sc) (J eo n3 ec) (J oo dN oc));have BL:=L (dw (b:=w.heap.size+1+1) B2.out (by omega) (V O me) (J no nn nc) (J ao n2 ac) (J so sn sc) (J eo n3 ec) (J oo dN oc));have xW:=Z2.out;have qZ:=Z5.out;obtain⟨x0,x1,x2,x3,x4,x5⟩:=xW.eZ;obtain⟨r0,r1,r2,r3,r4,r5⟩:=qZ.eZ;obtain⟨t0,t1,t2,t3,t4,t5⟩:=qZ.kg;have zz:=qZ.lt;clear xW qZ;go_wp2_with fail;obtain⟨v0,v1,v2,v3,v4,v5⟩:=FB.out.eZ;refine aM (v:=.tuple #[bA #[V O me,J no nn nc,J ao n2 ac,J so sn sc,J eo n3 ec,J oo dN oc],aB aD]) (by simp [results,aX,go_sem,v0,v1,v2,v3,v4,v5]) rfl ?_;rw [LB.out];exact⟨⟨(eo,n3,ec),es,rfl,cB ⟨rfl,rfl,rfl⟩,HR2.out⟩,BL.out⟩
 ·have HF:=L hf;have HY:=L hy;have hk:=(aV.1 hy).1;have XL2:=XL.out;have hkn:k<n2:=by rw [N2.out]; exact hk
  obtain⟨p,ix,px⟩:=PI HS.out rfl N2.out.symm hy;obtain⟨z1,z2,⟨zo,zn,zc⟩,par⟩:=y;have PX:=L px;have pr:=aG (show w1.cell? ⟨p.block,p.off+3,Y⟩=X (V O par) from (px w1 B1.out).2.2.2);obtain⟨a,hak⟩:∃ a,b.dL[k]?=X a:=⟨_,ak (by rw [<- HA2.out.len]; exact hk)⟩;have hap:a.par=par:=by
   obtain⟨z,hz1,hz2⟩:=HA2.out.at k a hak;rw [HY.out] at hz1;obtain rfl:=aZ hz1;exact hz2.2.1.symm
  have LA:=L (show ∀ i,iH (es.map iF) ((c,d),(g,h))=i->gN b ⟨(c,d),(g,h),p',fr,XD⟩=if i≠-1 then (b,aD) else if fr≠-1/\fr=par then (b,aD) else ({ b with ent:=fP b.ent (eG (b.ent.map eY) ((c,d),(g,h))) ⟨(c,d),(g,h),p',fr,decide (par≠-1) && !eP b.ent (c,d) p'⟩ },decide (par≠-1) && !eP b.ent (c,d) p') from fun i hi=>by
   have hf':=HF.out;rw [Zt.out] at hf';rw [Vb.out] at hi;unfold gN;simp only;rw [hf',bI,hak];simp only;rw [if_neg (by omega),hap,hi])
  have hik:decide ((k:Int)<0)=aD:=decide_eq_false (by omega);rw [hf];clear hf hy px hak hap HF HY;rcases mG (es.map iF) ((c,d),(g,h)) with he|⟨j,he,_⟩
  ·have LC:=LA.out _ he;rw [if_neg (by simp)] at LC;rw [he] at CE;clear LA he;obtain⟨f1,hf1⟩:∃ r,(fr != -1)=r:=⟨_,rfl⟩;obtain⟨f2,hf2⟩:∃ r,(fr == par)=r:=⟨_,rfl⟩;have F1:=L hf1;have F2_:=L hf2;cases f1
   ·have LD:=LC;rw [if_neg (by exact fun q=>q.1 (by simpa using hf1))] at LD;clear LC;go_upto_region 2 with fail;refine wp_region_quiet_below (by kernel_rfl) (by kernel_rfl) ?_
    repeat (go_big_quiet_step (first | (with_reducible exact CE.out _ _)))
    refine wpQuiet_nil ?_;intro _ hw';obtain⟨⟨dq,osq⟩,hw''⟩:=hw';subst hw'';have Z6:=ay w1 dq osq;have B2:=L (B1.out.trans (Z6.mono B1.out.size));have Z2:=L (Y2.out.on Z6);have Z3:=L (Y3.out.on Z6);have Z5:=L (Y5.out.on Z6);clear Z6 B1 Y2 Y3 Y5 a0 a1 a2 a3 a4 a5 b0 b1 b2 b3 b4 b5 b6;generalize grow (bH w1 dq) osq=w2 at *;have p3b:=(PX.out w2 B2.out).2.2.2;have x_:=Z2.out;have y_:=Z3.out;obtain⟨x0,x1,x2,x3,x4,x5⟩:=x_.eZ;obtain⟨y0,y1,y2,y3,y4,y5,y6⟩:=y_.mP;clear x_ y_;obtain⟨g1,hg1⟩:∃ r,(par != -1)=r:=⟨_,rfl⟩;have GP:=L (show decide (par≠-1)=g1 by rw [<- hg1]; by_cases q:par=-1 <;> simp [q]);rw [GP.out] at LD;cases g1
    ·have LB:=L LD;clear LD CV;have B3:=L B2.out;have F2:=L Z2.out;have F3:=L Z3.out;have F5:=L Z5.out;clear B2 Z2 Z3 Z5;have f3:=F3.out;obtain⟨k0,k1,k2,k3,k4,k5,k6⟩:=f3.mP;have f36:=f3.fr 6;have Q7:=f3.lt;clear f3;go_upto_region 5 with fail;clear k0 k1 k2 k3 k4 k5 k6 f36 Q7;have G3:=L (show dG _ _ #[V O c,V O d,V O g,V O h,J po pn pc,V O fr,aB aD] _ from by simpa using dO (k:=6) F3.out (aB aD));have G2:=L (show dG _ _ _ _ from (au w2 ⟨w.heap.size+1,6,Y⟩ (aB aD) _ (show w.heap.size≠w.heap.size+1 by omega)).trans F2.out);have G5:=L (show dG _ _ _ _ from (au w2 ⟨w.heap.size+1,6,Y⟩ (aB aD) _ (show w.heap.size+1+1≠w.heap.size+1 by omega)).trans F5.out);have B4:=L (B3.out.setCell (p:=⟨w.heap.size+1,6,Y⟩) (by show w.heap.size<=w.heap.size+1; omega) (aB aD));clear B3 F2 F3 F5;generalize w2.setCell ⟨w.heap.size+1,6,Y⟩ (aB aD)=w4 at *;have R4:=L (HE.out.on B4.out)
     go_upto_block 0 with (fail)
     refine wB _ w4 w.heap.size (w.heap.size+1) me c d g h _ _ _ _ _ _ _ eo n3 ec es _ _ _ _ _ _ _ _ _ _ _ _ _ _ _ _ _ _ _ _ _ _ _ _ _ _ _ _ _ _ _ _ _ _ _ _ _ _ _ _ _ _ _ _ _ _ _ _ _ _ _ _ _ _ _ _ _ _ _ _ _ _ _ _ _ _ _ _ _ _ _ _ _ _ _ _ _ _ _ _ _ _ _ _ _ _ _ _ _ _ _ _ _ _ _ _ _ _ _ _ _ _ _ _ _ _ _ _ _ _ _ _ G2.out G3.out R4.out N3.out (by have:=EL.out; have:=N3.out; omega) ?_;intro wr v57 v58 v59 v60 v61 v62 v63 v64 v65 v66 v67 v68 v69 v70 v71 v72 v73 v74 v75 v76 v77 v78 v79 v80 v81 v82 v83 v84 v85 v86 v87 v88 v89 v90 v91 v92 v93 v94 v95 v96 hb;have B5:=L (B4.out.trans (hb.mono B4.out.size));have K2:=L (G2.out.on hb);have K3:=L (G3.out.on hb);have K5:=L (G5.out.on hb);have R5:=L (R4.out.on hb);clear hb B4 G2 G3 G5 R4;go_upto_region 8 with fail;refine Nb _ wr w.heap.size (w.heap.size+1) me _ _ _ _ eo n3 ec (eG (es.map iF) ((c,d),(g,h))) es (c,d,g,h,(po,pn,pc),fr,aD) _ _ _ _ _ _ _ _ _ _ _ _ _ _ _ _ _ _ _ _ _ _ _ _ _ _ _ _ _ _ _ _ _ _ _ _ _ _ _ _ _ _ _ _ _ _ _ _ _ _ _ _ _ _ _ _ _ _ _ _ _ _ _ _ _ _ _ _ _ _ _ _ _ _ _ _ _ _ _ _ _ _ _ _ _ _ _ _ _ _ _ _ _ _ _ _ _ _ _ _ _ _ _ _ _ _ _ _ _ _ _ _ K2.out (lT (p:=(po,pn,pc)) K3.out) R5.out (by have:=nI (es.map iF) ((c,d),(g,h)); rw [aC] at this; exact this) EL.out ?_;intro xw v97 v98 v99 v100 v101 v102 v103 v104 v105 v106 v107 v108 v109 v110 v111 hbx ho hbl hoth hblk;obtain⟨lQ,lS,yI⟩:=(aQ ho).len;obtain⟨tl,htl⟩:∃ n,n=(es.take (eG (es.map iF) ((c,d),(g,h)))++[(c,d,g,h,(po,pn,pc),fr,aD)]++es.drop (eG (es.map iF) ((c,d),(g,h)))).length:=⟨_,rfl⟩;rw [<- htl] at yI;subst yI;have B6:=L (B5.out.trans (hbl _ (aI _)));have M2:=hbx;have M3:=hoth _ _ _ (by omega) K3.out;have M5:=hoth _ _ _ (by omega) K5.out;have OE:=L (dx ho (show w.heap.size+3<=wr.heap.size by have:=K5.out.lt; omega));clear ho hbl hoth hblk htl hbx B5 K2 K3 K5 R5;go_upto_region 9 with fail;refine wG _ xw w.heap.size (w.heap.size+1) (w.heap.size+1+1) me no ao so lQ oo nn nc n2 ac sn sc tl lS dN oc _ _ _ _ _ _ _ _ _ _ _ _ aD _ _ _ _ _ _ _ _ _ _ _ _ _ _ _ _ _ _ _ _ _ _ _ _ _ _ _ _ _ _ _ _ _ _ _ _ _ _ _ _ _ _ _ _ _ _ _ _ _ _ _ _ _ _ _ _ _ _ _ _ _ _ _ _ _ _ _ _ _ _ _ _ _ _ _ _ _ _ _ _ _ _ _ _ _ _ _ _ _ _ _ _ _ _ _ _ _ _ _ _ _ _ _ _ _ _ _ _ _ _ _ _ M2 M3 M5 (by omega) ?_;intro a9 x9 Gn h49 h59 Q8;subst Q8;have FB:=L (dH M5.drew (V O me) (J no nn nc) (J ao n2 ac) (J so sn sc) (J lQ tl lS) (J oo dN oc));have BL:=L (dw (b:=w.heap.size+1+1) B6.out.drew (by omega) (V O me) (J no nn nc) (J ao n2 ac) (J so sn sc) (J lQ tl lS) (J oo dN oc));have FE:=L (fC (dh OE.out ((ah xw.heap.size xw).drew)) (w.heap.size+1+1) (by omega) (V O me) (J no nn nc) (J ao n2 ac) (J so sn sc) (J lQ tl lS) (J oo dN oc));clear OE M2 M3 M5 B6;simp only [Exit.then]
     apply_assumption
     go_wp2_with fail;obtain⟨v0,v1,v2,v3,v4,v5⟩:=FB.out.eZ;refine aM (v:=.tuple #[bA #[V O me,J no nn nc,J ao n2 ac,J so sn sc,J lQ tl lS,J oo dN oc],aB aD]) (by simp [results,aX,go_sem,h49,h59,v0,v1,v2,v3,v4,v5]) Gn ?_;rw [LB.out];refine⟨⟨(lQ,tl,lS),_,rfl,aO (dx FE.out (show w.heap.size<=w.heap.size+3 by omega)),?_⟩,BL.out⟩;rw [<- Vb.out];exact ((HR2.out.take _).append (.cons (HRZ.out _) .nil)).append (HR2.out.drop _)
    ·have CW:=L (CV.out w2 B2.out);obtain⟨cv,hcv⟩:∃ r,eP b.ent (c,d) p'=r:=⟨_,rfl⟩;rw [hcv] at CW LD;clear CV hcv;go_wp2_with fail;refine CW.out.mono ?_;rintro e3 w3 ⟨rfl,hb⟩;have B3:=L (B2.out.trans (hb.mono B2.out.size));have F2:=L (Z2.out.on hb);have F3:=L (Z3.out.on hb);have F5:=L (Z5.out.on hb);clear hb CW B2 Z2 Z3 Z5 x0 x1 x2 x3 x4 x5 y0 y1 y2 y3 y4 y5 y6 p3b;cases cv
     ·have LB:=L LD;clear LD;have f3:=F3.out;obtain⟨k0,k1,k2,k3,k4,k5,k6⟩:=f3.mP;have f36:=f3.fr 6;have Q7:=f3.lt;clear f3;go_upto_region 5 with fail;clear k0 k1 k2 k3 k4 k5 k6 f36 Q7;have G3:=L (show dG _ _ #[V O c,V O d,V O g,V O h,J po pn pc,V O fr,aB aU] _ from by simpa using dO (k:=6) F3.out (aB aU));have G2:=L (show dG _ _ _ _ from (au w3 ⟨w.heap.size+1,6,Y⟩ (aB aU) _ (show w.heap.size≠w.heap.size+1 by omega)).trans F2.out);have G5:=L (show dG _ _ _ _ from (au w3 ⟨w.heap.size+1,6,Y⟩ (aB aU) _ (show w.heap.size+1+1≠w.heap.size+1 by omega)).trans F5.out);have B4:=L (B3.out.setCell (p:=⟨w.heap.size+1,6,Y⟩) (by show w.heap.size<=w.heap.size+1; omega) (aB aU));clear B3 F2 F3 F5;generalize w3.setCell ⟨w.heap.size+1,6,Y⟩ (aB aU)=w4 at *;have R4:=L (HE.out.on B4.out)
      go_upto_block 0 with (fail)
      refine wB _ w4 w.heap.size (w.heap.size+1) me c d g h _ _ _ _ _ _ _ eo n3 ec es _ _ _ _ _ _ _ _ _ _ _ _ _ _ _ _ _ _ _ _ _ _ _ _ _ _ _ _ _ _ _ _ _ _ _ _ _ _ _ _ _ _ _ _ _ _ _ _ _ _ _ _ _ _ _ _ _ _ _ _ _ _ _ _ _ _ _ _ _ _ _ _ _ _ _ _ _ _ _ _ _ _ _ _ _ _ _ _ _ _ _ _ _ _ _ _ _ _ _ _ _ _ _ _ _ _ _ _ _ _ _ _ G2.out G3.out R4.out N3.out (by have:=EL.out; have:=N3.out; omega) ?_;intro wr v57 v58 v59 v60 v61 v62 v63 v64 v65 v66 v67 v68 v69 v70 v71 v72 v73 v74 v75 v76 v77 v78 v79 v80 v81 v82 v83 v84 v85 v86 v87 v88 v89 v90 v91 v92 v93 v94 v95 v96 hb;have B5:=L (B4.out.trans (hb.mono B4.out.size));have K2:=L (G2.out.on hb);have K3:=L (G3.out.on hb);have K5:=L (G5.out.on hb);have R5:=L (R4.out.on hb);clear hb B4 G2 G3 G5 R4;go_upto_region 8 with fail;refine Nb _ wr w.heap.size (w.heap.size+1) me _ _ _ _ eo n3 ec (eG (es.map iF) ((c,d),(g,h))) es (c,d,g,h,(po,pn,pc),fr,aU) _ _ _ _ _ _ _ _ _ _ _ _ _ _ _ _ _ _ _ _ _ _ _ _ _ _ _ _ _ _ _ _ _ _ _ _ _ _ _ _ _ _ _ _ _ _ _ _ _ _ _ _ _ _ _ _ _ _ _ _ _ _ _ _ _ _ _ _ _ _ _ _ _ _ _ _ _ _ _ _ _ _ _ _ _ _ _ _ _ _ _ _ _ _ _ _ _ _ _ _ _ _ _ _ _ _ _ _ _ _ _ _ K2.out (lT (p:=(po,pn,pc)) K3.out) R5.out (by have:=nI (es.map iF) ((c,d),(g,h)); rw [aC] at this; exact this) EL.out ?_;intro xw v97 v98 v99 v100 v101 v102 v103 v104 v105 v106 v107 v108 v109 v110 v111 hbx ho hbl hoth hblk;obtain⟨lQ,lS,yI⟩:=(aQ ho).len;obtain⟨tl,htl⟩:∃ n,n=(es.take (eG (es.map iF) ((c,d),(g,h)))++[(c,d,g,h,(po,pn,pc),fr,aU)]++es.drop (eG (es.map iF) ((c,d),(g,h)))).length:=⟨_,rfl⟩;rw [<- htl] at yI;subst yI;have B6:=L (B5.out.trans (hbl _ (aI _)));have M2:=hbx;have M3:=hoth _ _ _ (by omega) K3.out;have M5:=hoth _ _ _ (by omega) K5.out;have OE:=L (dx ho (show w.heap.size+3<=wr.heap.size by have:=K5.out.lt; omega));clear ho hbl hoth hblk htl hbx B5 K2 K3 K5 R5;go_upto_region 9 with fail;refine wG _ xw w.heap.size (w.heap.size+1) (w.heap.size+1+1) me no ao so lQ oo nn nc n2 ac sn sc tl lS dN oc _ _ _ _ _ _ _ _ _ _ _ _ aU _ _ _ _ _ _ _ _ _ _ _ _ _ _ _ _ _ _ _ _ _ _ _ _ _ _ _ _ _ _ _ _ _ _ _ _ _ _ _ _ _ _ _ _ _ _ _ _ _ _ _ _ _ _ _ _ _ _ _ _ _ _ _ _ _ _ _ _ _ _ _ _ _ _ _ _ _ _ _ _ _ _ _ _ _ _ _ _ _ _ _ _ _ _ _ _ _ _ _ _ _ _ _ _ _ _ _ _ _ _ _ _ M2 M3 M5 (by omega) ?_;intro a9 x9 Gn h49 h59 Q8;subst Q8;have FB:=L (dH M5.drew (V O me) (J no nn nc) (J ao n2 ac) (J so sn sc) (J lQ tl lS) (J oo dN oc));have BL:=L (dw (b:=w.heap.size+1+1) B6.out.drew (by omega) (V O me) (J no nn nc) (J ao n2 ac) (J so sn sc) (J lQ tl lS) (J oo dN oc));have FE:=L (fC (dh OE.out ((ah xw.heap.size xw).drew)) (w.heap.size+1+1) (by omega) (V O me) (J no nn nc) (J ao n2 ac) (J so sn sc) (J lQ tl lS) (J oo dN oc));clear OE M2 M3 M5 B6;simp only [Exit.then]
      apply_assumption
      go_wp2_with fail;obtain⟨v0,v1,v2,v3,v4,v5⟩:=FB.out.eZ;refine aM (v:=.tuple #[bA #[V O me,J no nn nc,J ao n2 ac,J so sn sc,J lQ tl lS,J oo dN oc],aB aU]) (by simp [results,aX,go_sem,h49,h59,v0,v1,v2,v3,v4,v5]) Gn ?_;rw [LB.out];refine⟨⟨(lQ,tl,lS),_,rfl,aO (dx FE.out (show w.heap.size<=w.heap.size+3 by omega)),?_⟩,BL.out⟩;rw [<- Vb.out];exact ((HR2.out.take _).append (.cons (HRZ.out _) .nil)).append (HR2.out.drop _)
     ·have LB:=L LD;clear LD;have f3:=F3.out;obtain⟨k0,k1,k2,k3,k4,k5,k6⟩:=f3.mP;have f36:=f3.fr 6;have Q7:=f3.lt;clear f3;go_upto_region 5 with fail;clear k0 k1 k2 k3 k4 k5 k6 f36 Q7;have G3:=L (show dG _ _ #[V O c,V O d,V O g,V O h,J po pn pc,V O fr,aB aD] _ from by simpa using dO (k:=6) F3.out (aB aD));have G2:=L (show dG _ _ _ _ from (au w3 ⟨w.heap.size+1,6,Y⟩ (aB aD) _ (show w.heap.size≠w.heap.size+1 by omega)).trans F2.out);have G5:=L (show dG _ _ _ _ from (au w3 ⟨w.heap.size+1,6,Y⟩ (aB aD) _ (show w.heap.size+1+1≠w.heap.size+1 by omega)).trans F5.out);have B4:=L (B3.out.setCell (p:=⟨w.heap.size+1,6,Y⟩) (by show w.heap.size<=w.heap.size+1; omega) (aB aD));clear B3 F2 F3 F5;generalize w3.setCell ⟨w.heap.size+1,6,Y⟩ (aB aD)=w4 at *;have R4:=L (HE.out.on B4.out)
      go_upto_block 0 with (fail)
      refine wB _ w4 w.heap.size (w.heap.size+1) me c d g h _ _ _ _ _ _ _ eo n3 ec es _ _ _ _ _ _ _ _ _ _ _ _ _ _ _ _ _ _ _ _ _ _ _ _ _ _ _ _ _ _ _ _ _ _ _ _ _ _ _ _ _ _ _ _ _ _ _ _ _ _ _ _ _ _ _ _ _ _ _ _ _ _ _ _ _ _ _ _ _ _ _ _ _ _ _ _ _ _ _ _ _ _ _ _ _ _ _ _ _ _ _ _ _ _ _ _ _ _ _ _ _ _ _ _ _ _ _ _ _ _ _ _ G2.out G3.out R4.out N3.out (by have:=EL.out; have:=N3.out; omega) ?_;intro wr v57 v58 v59 v60 v61 v62 v63 v64 v65 v66 v67 v68 v69 v70 v71 v72 v73 v74 v75 v76 v77 v78 v79 v80 v81 v82 v83 v84 v85 v86 v87 v88 v89 v90 v91 v92 v93 v94 v95 v96 hb;have B5:=L (B4.out.trans (hb.mono B4.out.size));have K2:=L (G2.out.on hb);have K3:=L (G3.out.on hb);have K5:=L (G5.out.on hb);have R5:=L (R4.out.on hb);clear hb B4 G2 G3 G5 R4;go_upto_region 8 with fail;refine Nb _ wr w.heap.size (w.heap.size+1) me _ _ _ _ eo n3 ec (eG (es.map iF) ((c,d),(g,h))) es (c,d,g,h,(po,pn,pc),fr,aD) _ _ _ _ _ _ _ _ _ _ _ _ _ _ _ _ _ _ _ _ _ _ _ _ _ _ _ _ _ _ _ _ _ _ _ _ _ _ _ _ _ _ _ _ _ _ _ _ _ _ _ _ _ _ _ _ _ _ _ _ _ _ _ _ _ _ _ _ _ _ _ _ _ _ _ _ _ _ _ _ _ _ _ _ _ _ _ _ _ _ _ _ _ _ _ _ _ _ _ _ _ _ _ _ _ _ _ _ _ _ _ _ K2.out (lT (p:=(po,pn,pc)) K3.out) R5.out (by have:=nI (es.map iF) ((c,d),(g,h)); rw [aC] at this; exact this) EL.out ?_;intro xw v97 v98 v99 v100 v101 v102 v103 v104 v105 v106 v107 v108 v109 v110 v111 hbx ho hbl hoth hblk;obtain⟨lQ,lS,yI⟩:=(aQ ho).len;obtain⟨tl,htl⟩:∃ n,n=(es.take (eG (es.map iF) ((c,d),(g,h)))++[(c,d,g,h,(po,pn,pc),fr,aD)]++es.drop (eG (es.map iF) ((c,d),(g,h)))).length:=⟨_,rfl⟩;rw [<- htl] at yI;subst yI;have B6:=L (B5.out.trans (hbl _ (aI _)));have M2:=hbx;have M3:=hoth _ _ _ (by omega) K3.out;have M5:=hoth _ _ _ (by omega) K5.out;have OE:=L (dx ho (show w.heap.size+3<=wr.heap.size by have:=K5.out.lt; omega));clear ho hbl hoth hblk htl hbx B5 K2 K3 K5 R5;go_upto_region 9 with fail;refine wG _ xw w.heap.size (w.heap.size+1) (w.heap.size+1+1) me no ao so lQ oo nn nc n2 ac sn sc tl lS dN oc _ _ _ _ _ _ _ _ _ _ _ _ aD _ _ _ _ _ _ _ _ _ _ _ _ _ _ _ _ _ _ _ _ _ _ _ _ _ _ _ _ _ _ _ _ _ _ _ _ _ _ _ _ _ _ _ _ _ _ _ _ _ _ _ _ _ _ _ _ _ _ _ _ _ _ _ _ _ _ _ _ _ _ _ _ _ _ _ _ _ _ _ _ _ _ _ _ _ _ _ _ _ _ _ _ _ _ _ _ _ _ _ _ _ _ _ _ _ _ _ _ _ _ _ _ M2 M3 M5 (by omega) ?_;intro a9 x9 Gn h49 h59 Q8;subst Q8;have FB:=L (dH M5.drew (V O me) (J no nn nc) (J ao n2 ac) (J so sn sc) (J lQ tl lS) (J oo dN oc));have BL:=L (dw (b:=w.heap.size+1+1) B6.out.drew (by omega) (V O me) (J no nn nc) (J ao n2 ac) (J so sn sc) (J lQ tl lS) (J oo dN oc));have FE:=L (fC (dh OE.out ((ah xw.heap.size xw).drew)) (w.heap.size+1+1) (by omega) (V O me) (J no nn nc) (J ao n2 ac) (J so sn sc) (J lQ tl lS) (J oo dN oc));clear OE M2 M3 M5 B6;simp only [Exit.then]
      apply_assumption
      go_wp2_with fail;obtain⟨v0,v1,v2,v3,v4,v5⟩:=FB.out.eZ;refine aM (v:=.tuple #[bA #[V O me,J no nn nc,J ao n2 ac,J so sn sc,J lQ tl lS,J oo dN oc],aB aD]) (by simp [results,aX,go_sem,h49,h59,v0,v1,v2,v3,v4,v5]) Gn ?_;rw [LB.out];refine⟨⟨(lQ,tl,lS),_,rfl,aO (dx FE.out (show w.heap.size<=w.heap.size+3 by omega)),?_⟩,BL.out⟩;rw [<- Vb.out];exact ((HR2.out.take _).append (.cons (HRZ.out _) .nil)).append (HR2.out.drop _)
   ·cases f2
    ·have LD:=LC;rw [if_neg (by intro q; simp [q.2] at hf2)] at LD;clear LC;go_upto_region 2 with fail;refine wp_region_quiet_below (by kernel_rfl) (by kernel_rfl) ?_
     repeat (go_big_quiet_step (first | (with_reducible exact CE.out _ _)))
     refine wpQuiet_nil ?_;intro _ hw';obtain⟨⟨dq,osq⟩,hw''⟩:=hw';subst hw'';have Z6:=ay w1 dq osq;have B2:=L (B1.out.trans (Z6.mono B1.out.size));have Z2:=L (Y2.out.on Z6);have Z3:=L (Y3.out.on Z6);have Z5:=L (Y5.out.on Z6);clear Z6 B1 Y2 Y3 Y5 a0 a1 a2 a3 a4 a5 b0 b1 b2 b3 b4 b5 b6;generalize grow (bH w1 dq) osq=w2 at *;have p3b:=(PX.out w2 B2.out).2.2.2;have x_:=Z2.out;have y_:=Z3.out;obtain⟨x0,x1,x2,x3,x4,x5⟩:=x_.eZ;obtain⟨y0,y1,y2,y3,y4,y5,y6⟩:=y_.mP;clear x_ y_;obtain⟨g1,hg1⟩:∃ r,(par != -1)=r:=⟨_,rfl⟩;have GP:=L (show decide (par≠-1)=g1 by rw [<- hg1]; by_cases q:par=-1 <;> simp [q]);rw [GP.out] at LD;cases g1
     ·have LB:=L LD;clear LD CV;have B3:=L B2.out;have F2:=L Z2.out;have F3:=L Z3.out;have F5:=L Z5.out;clear B2 Z2 Z3 Z5;have f3:=F3.out;obtain⟨k0,k1,k2,k3,k4,k5,k6⟩:=f3.mP;have f36:=f3.fr 6;have Q7:=f3.lt;clear f3;go_upto_region 5 with fail;clear k0 k1 k2 k3 k4 k5 k6 f36 Q7;have G3:=L (show dG _ _ #[V O c,V O d,V O g,V O h,J po pn pc,V O fr,aB aD] _ from by simpa using dO (k:=6) F3.out (aB aD));have G2:=L (show dG _ _ _ _ from (au w2 ⟨w.heap.size+1,6,Y⟩ (aB aD) _ (show w.heap.size≠w.heap.size+1 by omega)).trans F2.out);have G5:=L (show dG _ _ _ _ from (au w2 ⟨w.heap.size+1,6,Y⟩ (aB aD) _ (show w.heap.size+1+1≠w.heap.size+1 by omega)).trans F5.out);have B4:=L (B3.out.setCell (p:=⟨w.heap.size+1,6,Y⟩) (by show w.heap.size<=w.heap.size+1; omega) (aB aD));clear B3 F2 F3 F5;generalize w2.setCell ⟨w.heap.size+1,6,Y⟩ (aB aD)=w4 at *;have R4:=L (HE.out.on B4.out)
      go_upto_block 0 with (fail)
      refine wB _ w4 w.heap.size (w.heap.size+1) me c d g h _ _ _ _ _ _ _ eo n3 ec es _ _ _ _ _ _ _ _ _ _ _ _ _ _ _ _ _ _ _ _ _ _ _ _ _ _ _ _ _ _ _ _ _ _ _ _ _ _ _ _ _ _ _ _ _ _ _ _ _ _ _ _ _ _ _ _ _ _ _ _ _ _ _ _ _ _ _ _ _ _ _ _ _ _ _ _ _ _ _ _ _ _ _ _ _ _ _ _ _ _ _ _ _ _ _ _ _ _ _ _ _ _ _ _ _ _ _ _ _ _ _ _ G2.out G3.out R4.out N3.out (by have:=EL.out; have:=N3.out; omega) ?_;intro wr v57 v58 v59 v60 v61 v62 v63 v64 v65 v66 v67 v68 v69 v70 v71 v72 v73 v74 v75 v76 v77 v78 v79 v80 v81 v82 v83 v84 v85 v86 v87 v88 v89 v90 v91 v92 v93 v94 v95 v96 hb;have B5:=L (B4.out.trans (hb.mono B4.out.size));have K2:=L (G2.out.on hb);have K3:=L (G3.out.on hb);have K5:=L (G5.out.on hb);have R5:=L (R4.out.on hb);clear hb B4 G2 G3 G5 R4;go_upto_region 8 with fail;refine Nb _ wr w.heap.size (w.heap.size+1) me _ _ _ _ eo n3 ec (eG (es.map iF) ((c,d),(g,h))) es (c,d,g,h,(po,pn,pc),fr,aD) _ _ _ _ _ _ _ _ _ _ _ _ _ _ _ _ _ _ _ _ _ _ _ _ _ _ _ _ _ _ _ _ _ _ _ _ _ _ _ _ _ _ _ _ _ _ _ _ _ _ _ _ _ _ _ _ _ _ _ _ _ _ _ _ _ _ _ _ _ _ _ _ _ _ _ _ _ _ _ _ _ _ _ _ _ _ _ _ _ _ _ _ _ _ _ _ _ _ _ _ _ _ _ _ _ _ _ _ _ _ _ _ K2.out (lT (p:=(po,pn,pc)) K3.out) R5.out (by have:=nI (es.map iF) ((c,d),(g,h)); rw [aC] at this; exact this) EL.out ?_;intro xw v97 v98 v99 v100 v101 v102 v103 v104 v105 v106 v107 v108 v109 v110 v111 hbx ho hbl hoth hblk;obtain⟨lQ,lS,yI⟩:=(aQ ho).len;obtain⟨tl,htl⟩:∃ n,n=(es.take (eG (es.map iF) ((c,d),(g,h)))++[(c,d,g,h,(po,pn,pc),fr,aD)]++es.drop (eG (es.map iF) ((c,d),(g,h)))).length:=⟨_,rfl⟩;rw [<- htl] at yI;subst yI;have B6:=L (B5.out.trans (hbl _ (aI _)));have M2:=hbx;have M3:=hoth _ _ _ (by omega) K3.out;have M5:=hoth _ _ _ (by omega) K5.out;have OE:=L (dx ho (show w.heap.size+3<=wr.heap.size by have:=K5.out.lt; omega));clear ho hbl hoth hblk htl hbx B5 K2 K3 K5 R5;go_upto_region 9 with fail;refine wG _ xw w.heap.size (w.heap.size+1) (w.heap.size+1+1) me no ao so lQ oo nn nc n2 ac sn sc tl lS dN oc _ _ _ _ _ _ _ _ _ _ _ _ aD _ _ _ _ _ _ _ _ _ _ _ _ _ _ _ _ _ _ _ _ _ _ _ _ _ _ _ _ _ _ _ _ _ _ _ _ _ _ _ _ _ _ _ _ _ _ _ _ _ _ _ _ _ _ _ _ _ _ _ _ _ _ _ _ _ _ _ _ _ _ _ _ _ _ _ _ _ _ _ _ _ _ _ _ _ _ _ _ _ _ _ _ _ _ _ _ _ _ _ _ _ _ _ _ _ _ _ _ _ _ _ _ M2 M3 M5 (by omega) ?_;intro a9 x9 Gn h49 h59 Q8;subst Q8;have FB:=L (dH M5.drew (V O me) (J no nn nc) (J ao n2 ac) (J so sn sc) (J lQ tl lS) (J oo dN oc));have BL:=L (dw (b:=w.heap.size+1+1) B6.out.drew (by omega) (V O me) (J no nn nc) (J ao n2 ac) (J so sn sc) (J lQ tl lS) (J oo dN oc));have FE:=L (fC (dh OE.out ((ah xw.heap.size xw).drew)) (w.heap.size+1+1) (by omega) (V O me) (J no nn nc) (J ao n2 ac) (J so sn sc) (J lQ tl lS) (J oo dN oc));clear OE M2 M3 M5 B6;simp only [Exit.then]
      apply_assumption
      go_wp2_with fail;obtain⟨v0,v1,v2,v3,v4,v5⟩:=FB.out.eZ;refine aM (v:=.tuple #[bA #[V O me,J no nn nc,J ao n2 ac,J so sn sc,J lQ tl lS,J oo dN oc],aB aD]) (by simp [results,aX,go_sem,h49,h59,v0,v1,v2,v3,v4,v5]) Gn ?_;rw [LB.out];refine⟨⟨(lQ,tl,lS),_,rfl,aO (dx FE.out (show w.heap.size<=w.heap.size+3 by omega)),?_⟩,BL.out⟩;rw [<- Vb.out];exact ((HR2.out.take _).append (.cons (HRZ.out _) .nil)).append (HR2.out.drop _)
     ·have CW:=L (CV.out w2 B2.out);obtain⟨cv,hcv⟩:∃ r,eP b.ent (c,d) p'=r:=⟨_,rfl⟩;rw [hcv] at CW LD;clear CV hcv;go_wp2_with fail;refine CW.out.mono ?_;rintro e3 w3 ⟨rfl,hb⟩;have B3:=L (B2.out.trans (hb.mono B2.out.size));have F2:=L (Z2.out.on hb);have F3:=L (Z3.out.on hb);have F5:=L (Z5.out.on hb);clear hb CW B2 Z2 Z3 Z5 x0 x1 x2 x3 x4 x5 y0 y1 y2 y3 y4 y5 y6 p3b;cases cv
      ·have LB:=L LD;clear LD;have f3:=F3.out;obtain⟨k0,k1,k2,k3,k4,k5,k6⟩:=f3.mP;have f36:=f3.fr 6;have Q7:=f3.lt;clear f3;go_upto_region 5 with fail;clear k0 k1 k2 k3 k4 k5 k6 f36 Q7;have G3:=L (show dG _ _ #[V O c,V O d,V O g,V O h,J po pn pc,V O fr,aB aU] _ from by simpa using dO (k:=6) F3.out (aB aU));have G2:=L (show dG _ _ _ _ from (au w3 ⟨w.heap.size+1,6,Y⟩ (aB aU) _ (show w.heap.size≠w.heap.size+1 by omega)).trans F2.out);have G5:=L (show dG _ _ _ _ from (au w3 ⟨w.heap.size+1,6,Y⟩ (aB aU) _ (show w.heap.size+1+1≠w.heap.size+1 by omega)).trans F5.out);have B4:=L (B3.out.setCell (p:=⟨w.heap.size+1,6,Y⟩) (by show w.heap.size<=w.heap.size+1; omega) (aB aU));clear B3 F2 F3 F5;generalize w3.setCell ⟨w.heap.size+1,6,Y⟩ (aB aU)=w4 at *;have R4:=L (HE.out.on B4.out)
       go_upto_block 0 with (fail)
       refine wB _ w4 w.heap.size (w.heap.size+1) me c d g h _ _ _ _ _ _ _ eo n3 ec es _ _ _ _ _ _ _ _ _ _ _ _ _ _ _ _ _ _ _ _ _ _ _ _ _ _ _ _ _ _ _ _ _ _ _ _ _ _ _ _ _ _ _ _ _ _ _ _ _ _ _ _ _ _ _ _ _ _ _ _ _ _ _ _ _ _ _ _ _ _ _ _ _ _ _ _ _ _ _ _ _ _ _ _ _ _ _ _ _ _ _ _ _ _ _ _ _ _ _ _ _ _ _ _ _ _ _ _ _ _ _ _ G2.out G3.out R4.out N3.out (by have:=EL.out; have:=N3.out; omega) ?_;intro wr v57 v58 v59 v60 v61 v62 v63 v64 v65 v66 v67 v68 v69 v70 v71 v72 v73 v74 v75 v76 v77 v78 v79 v80 v81 v82 v83 v84 v85 v86 v87 v88 v89 v90 v91 v92 v93 v94 v95 v96 hb;have B5:=L (B4.out.trans (hb.mono B4.out.size));have K2:=L (G2.out.on hb);have K3:=L (G3.out.on hb);have K5:=L (G5.out.on hb);have R5:=L (R4.out.on hb);clear hb B4 G2 G3 G5 R4;go_upto_region 8 with fail;refine Nb _ wr w.heap.size (w.heap.size+1) me _ _ _ _ eo n3 ec (eG (es.map iF) ((c,d),(g,h))) es (c,d,g,h,(po,pn,pc),fr,aU) _ _ _ _ _ _ _ _ _ _ _ _ _ _ _ _ _ _ _ _ _ _ _ _ _ _ _ _ _ _ _ _ _ _ _ _ _ _ _ _ _ _ _ _ _ _ _ _ _ _ _ _ _ _ _ _ _ _ _ _ _ _ _ _ _ _ _ _ _ _ _ _ _ _ _ _ _ _ _ _ _ _ _ _ _ _ _ _ _ _ _ _ _ _ _ _ _ _ _ _ _ _ _ _ _ _ _ _ _ _ _ _ K2.out (lT (p:=(po,pn,pc)) K3.out) R5.out (by have:=nI (es.map iF) ((c,d),(g,h)); rw [aC] at this; exact this) EL.out ?_;intro xw v97 v98 v99 v100 v101 v102 v103 v104 v105 v106 v107 v108 v109 v110 v111 hbx ho hbl hoth hblk;obtain⟨lQ,lS,yI⟩:=(aQ ho).len;obtain⟨tl,htl⟩:∃ n,n=(es.take (eG (es.map iF) ((c,d),(g,h)))++[(c,d,g,h,(po,pn,pc),fr,aU)]++es.drop (eG (es.map iF) ((c,d),(g,h)))).length:=⟨_,rfl⟩;rw [<- htl] at yI;subst yI;have B6:=L (B5.out.trans (hbl _ (aI _)));have M2:=hbx;have M3:=hoth _ _ _ (by omega) K3.out;have M5:=hoth _ _ _ (by omega) K5.out;have OE:=L (dx ho (show w.heap.size+3<=wr.heap.size by have:=K5.out.lt; omega));clear ho hbl hoth hblk htl hbx B5 K2 K3 K5 R5;go_upto_region 9 with fail;refine wG _ xw w.heap.size (w.heap.size+1) (w.heap.size+1+1) me no ao so lQ oo nn nc n2 ac sn sc tl lS dN oc _ _ _ _ _ _ _ _ _ _ _ _ aU _ _ _ _ _ _ _ _ _ _ _ _ _ _ _ _ _ _ _ _ _ _ _ _ _ _ _ _ _ _ _ _ _ _ _ _ _ _ _ _ _ _ _ _ _ _ _ _ _ _ _ _ _ _ _ _ _ _ _ _ _ _ _ _ _ _ _ _ _ _ _ _ _ _ _ _ _ _ _ _ _ _ _ _ _ _ _ _ _ _ _ _ _ _ _ _ _ _ _ _ _ _ _ _ _ _ _ _ _ _ _ _ M2 M3 M5 (by omega) ?_;intro a9 x9 Gn h49 h59 Q8;subst Q8;have FB:=L (dH M5.drew (V O me) (J no nn nc) (J ao n2 ac) (J so sn sc) (J lQ tl lS) (J oo dN oc));have BL:=L (dw (b:=w.heap.size+1+1) B6.out.drew (by omega) (V O me) (J no nn nc) (J ao n2 ac) (J so sn sc) (J lQ tl lS) (J oo dN oc));have FE:=L (fC (dh OE.out ((ah xw.heap.size xw).drew)) (w.heap.size+1+1) (by omega) (V O me) (J no nn nc) (J ao n2 ac) (J so sn sc) (J lQ tl lS) (J oo dN oc));clear OE M2 M3 M5 B6;simp only [Exit.then]
       apply_assumption
       go_wp2_with fail;obtain⟨v0,v1,v2,v3,v4,v5⟩:=FB.out.eZ;refine aM (v:=.tuple #[bA #[V O me,J no nn nc,J ao n2 ac,J so sn sc,J lQ tl lS,J oo dN oc],aB aU]) (by simp [results,aX,go_sem,h49,h59,v0,v1,v2,v3,v4,v5]) Gn ?_;rw [LB.out];refine⟨⟨(lQ,tl,lS),_,rfl,aO (dx FE.out (show w.heap.size<=w.heap.size+3 by omega)),?_⟩,BL.out⟩;rw [<- Vb.out];exact ((HR2.out.take _).append (.cons (HRZ.out _) .nil)).append (HR2.out.drop _)
      ·have LB:=L LD;clear LD;have f3:=F3.out;obtain⟨k0,k1,k2,k3,k4,k5,k6⟩:=f3.mP;have f36:=f3.fr 6;have Q7:=f3.lt;clear f3;go_upto_region 5 with fail;clear k0 k1 k2 k3 k4 k5 k6 f36 Q7;have G3:=L (show dG _ _ #[V O c,V O d,V O g,V O h,J po pn pc,V O fr,aB aD] _ from by simpa using dO (k:=6) F3.out (aB aD));have G2:=L (show dG _ _ _ _ from (au w3 ⟨w.heap.size+1,6,Y⟩ (aB aD) _ (show w.heap.size≠w.heap.size+1 by omega)).trans F2.out);have G5:=L (show dG _ _ _ _ from (au w3 ⟨w.heap.size+1,6,Y⟩ (aB aD) _ (show w.heap.size+1+1≠w.heap.size+1 by omega)).trans F5.out);have B4:=L (B3.out.setCell (p:=⟨w.heap.size+1,6,Y⟩) (by show w.heap.size<=w.heap.size+1; omega) (aB aD));clear B3 F2 F3 F5;generalize w3.setCell ⟨w.heap.size+1,6,Y⟩ (aB aD)=w4 at *;have R4:=L (HE.out.on B4.out)
       go_upto_block 0 with (fail)
       refine wB _ w4 w.heap.size (w.heap.size+1) me c d g h _ _ _ _ _ _ _ eo n3 ec es _ _ _ _ _ _ _ _ _ _ _ _ _ _ _ _ _ _ _ _ _ _ _ _ _ _ _ _ _ _ _ _ _ _ _ _ _ _ _ _ _ _ _ _ _ _ _ _ _ _ _ _ _ _ _ _ _ _ _ _ _ _ _ _ _ _ _ _ _ _ _ _ _ _ _ _ _ _ _ _ _ _ _ _ _ _ _ _ _ _ _ _ _ _ _ _ _ _ _ _ _ _ _ _ _ _ _ _ _ _ _ _ G2.out G3.out R4.out N3.out (by have:=EL.out; have:=N3.out; omega) ?_;intro wr v57 v58 v59 v60 v61 v62 v63 v64 v65 v66 v67 v68 v69 v70 v71 v72 v73 v74 v75 v76 v77 v78 v79 v80 v81 v82 v83 v84 v85 v86 v87 v88 v89 v90 v91 v92 v93 v94 v95 v96 hb;have B5:=L (B4.out.trans (hb.mono B4.out.size));have K2:=L (G2.out.on hb);have K3:=L (G3.out.on hb);have K5:=L (G5.out.on hb);have R5:=L (R4.out.on hb);clear hb B4 G2 G3 G5 R4;go_upto_region 8 with fail;refine Nb _ wr w.heap.size (w.heap.size+1) me _ _ _ _ eo n3 ec (eG (es.map iF) ((c,d),(g,h))) es (c,d,g,h,(po,pn,pc),fr,aD) _ _ _ _ _ _ _ _ _ _ _ _ _ _ _ _ _ _ _ _ _ _ _ _ _ _ _ _ _ _ _ _ _ _ _ _ _ _ _ _ _ _ _ _ _ _ _ _ _ _ _ _ _ _ _ _ _ _ _ _ _ _ _ _ _ _ _ _ _ _ _ _ _ _ _ _ _ _ _ _ _ _ _ _ _ _ _ _ _ _ _ _ _ _ _ _ _ _ _ _ _ _ _ _ _ _ _ _ _ _ _ _ K2.out (lT (p:=(po,pn,pc)) K3.out) R5.out (by have:=nI (es.map iF) ((c,d),(g,h)); rw [aC] at this; exact this) EL.out ?_;intro xw v97 v98 v99 v100 v101 v102 v103 v104 v105 v106 v107 v108 v109 v110 v111 hbx ho hbl hoth hblk;obtain⟨lQ,lS,yI⟩:=(aQ ho).len;obtain⟨tl,htl⟩:∃ n,n=(es.take (eG (es.map iF) ((c,d),(g,h)))++[(c,d,g,h,(po,pn,pc),fr,aD)]++es.drop (eG (es.map iF) ((c,d),(g,h)))).length:=⟨_,rfl⟩;rw [<- htl] at yI;subst yI;have B6:=L (B5.out.trans (hbl _ (aI _)));have M2:=hbx;have M3:=hoth _ _ _ (by omega) K3.out;have M5:=hoth _ _ _ (by omega) K5.out;have OE:=L (dx ho (show w.heap.size+3<=wr.heap.size by have:=K5.out.lt; omega));clear ho hbl hoth hblk htl hbx B5 K2 K3 K5 R5;go_upto_region 9 with fail;refine wG _ xw w.heap.size (w.heap.size+1) (w.heap.size+1+1) me no ao so lQ oo nn nc n2 ac sn sc tl lS dN oc _ _ _ _ _ _ _ _ _ _ _ _ aD _ _ _ _ _ _ _ _ _ _ _ _ _ _ _ _ _ _ _ _ _ _ _ _ _ _ _ _ _ _ _ _ _ _ _ _ _ _ _ _ _ _ _ _ _ _ _ _ _ _ _ _ _ _ _ _ _ _ _ _ _ _ _ _ _ _ _ _ _ _ _ _ _ _ _ _ _ _ _ _ _ _ _ _ _ _ _ _ _ _ _ _ _ _ _ _ _ _ _ _ _ _ _ _ _ _ _ _ _ _ _ _ M2 M3 M5 (by omega) ?_;intro a9 x9 Gn h49 h59 Q8;subst Q8;have FB:=L (dH M5.drew (V O me) (J no nn nc) (J ao n2 ac) (J so sn sc) (J lQ tl lS) (J oo dN oc));have BL:=L (dw (b:=w.heap.size+1+1) B6.out.drew (by omega) (V O me) (J no nn nc) (J ao n2 ac) (J so sn sc) (J lQ tl lS) (J oo dN oc));have FE:=L (fC (dh OE.out ((ah xw.heap.size xw).drew)) (w.heap.size+1+1) (by omega) (V O me) (J no nn nc) (J ao n2 ac) (J so sn sc) (J lQ tl lS) (J oo dN oc));clear OE M2 M3 M5 B6;simp only [Exit.then]
       apply_assumption
       go_wp2_with fail;obtain⟨v0,v1,v2,v3,v4,v5⟩:=FB.out.eZ;refine aM (v:=.tuple #[bA #[V O me,J no nn nc,J ao n2 ac,J so sn sc,J lQ tl lS,J oo dN oc],aB aD]) (by simp [results,aX,go_sem,h49,h59,v0,v1,v2,v3,v4,v5]) Gn ?_;rw [LB.out];refine⟨⟨(lQ,tl,lS),_,rfl,aO (dx FE.out (show w.heap.size<=w.heap.size+3 by omega)),?_⟩,BL.out⟩;rw [<- Vb.out];exact ((HR2.out.take _).append (.cons (HRZ.out _) .nil)).append (HR2.out.drop _)
    ·have LB:=L (LC.trans (if_pos (by simpa using And.intro hf1 hf2)));clear LC;go_upto_region 2 with fail;refine wp_region_quiet_below (by kernel_rfl) (by kernel_rfl) ?_
     repeat (go_big_quiet_step (first | (with_reducible exact CE.out _ _)))
     refine wpQuiet_nil ?_;intro _ hw';obtain⟨⟨dq,osq⟩,hw''⟩:=hw';subst hw'';have Z6:=ay w1 dq osq;have B2:=L (B1.out.trans (Z6.mono B1.out.size));have Z2:=L (Y2.out.on Z6);have Z3:=L (Y3.out.on Z6);have Z5:=L (Y5.out.on Z6);clear Z6 B1 Y2 Y3 Y5 a0 a1 a2 a3 a4 a5 b0 b1 b2 b3 b4 b5 b6;generalize grow (bH w1 dq) osq=w2 at *;have FB:=L (dH Z5.out (V O me) (J no nn nc) (J ao n2 ac) (J so sn sc) (J eo n3 ec) (J oo dN oc));have BL:=L (dw (b:=w.heap.size+1+1) B2.out (by omega) (V O me) (J no nn nc) (J ao n2 ac) (J so sn sc) (J eo n3 ec) (J oo dN oc));have xW:=Z2.out;have qZ:=Z5.out;obtain⟨x0,x1,x2,x3,x4,x5⟩:=xW.eZ;obtain⟨r0,r1,r2,r3,r4,r5⟩:=qZ.eZ;obtain⟨t0,t1,t2,t3,t4,t5⟩:=qZ.kg;have zz:=qZ.lt;clear xW qZ;go_wp2_with fail;obtain⟨v0,v1,v2,v3,v4,v5⟩:=FB.out.eZ;refine aM (v:=.tuple #[bA #[V O me,J no nn nc,J ao n2 ac,J so sn sc,J eo n3 ec,J oo dN oc],aB aD]) (by simp [results,aX,go_sem,v0,v1,v2,v3,v4,v5]) rfl ?_;rw [LB.out];exact⟨⟨(eo,n3,ec),es,rfl,cB ⟨rfl,rfl,rfl⟩,HR2.out⟩,BL.out⟩
  ·have LB:=L (show gN b ⟨(c,d),(g,h),p',fr,XD⟩=(b,aD) from (LA.out _ he).trans (if_pos (by omega)));have hge:decide ((0:Int)<=(j:Int))=aU:=decide_eq_true (by omega);rw [he] at CE;clear LA he;go_upto_region 2 with fail;refine wp_region_quiet_below (by kernel_rfl) (by kernel_rfl) ?_
   repeat (go_big_quiet_step (first | (with_reducible exact CE.out _ _)))
   refine wpQuiet_nil ?_;intro _ hw';obtain⟨⟨dq,osq⟩,hw''⟩:=hw';subst hw'';have Z6:=ay w1 dq osq;have B2:=L (B1.out.trans (Z6.mono B1.out.size));have Z2:=L (Y2.out.on Z6);have Z3:=L (Y3.out.on Z6);have Z5:=L (Y5.out.on Z6);clear Z6 B1 Y2 Y3 Y5 a0 a1 a2 a3 a4 a5 b0 b1 b2 b3 b4 b5 b6;generalize grow (bH w1 dq) osq=w2 at *;have FB:=L (dH Z5.out (V O me) (J no nn nc) (J ao n2 ac) (J so sn sc) (J eo n3 ec) (J oo dN oc));have BL:=L (dw (b:=w.heap.size+1+1) B2.out (by omega) (V O me) (J no nn nc) (J ao n2 ac) (J so sn sc) (J eo n3 ec) (J oo dN oc));have xW:=Z2.out;have qZ:=Z5.out;obtain⟨x0,x1,x2,x3,x4,x5⟩:=xW.eZ;obtain⟨r0,r1,r2,r3,r4,r5⟩:=qZ.eZ;obtain⟨t0,t1,t2,t3,t4,t5⟩:=qZ.kg;have zz:=qZ.lt;clear xW qZ;go_wp2_with fail;obtain⟨v0,v1,v2,v3,v4,v5⟩:=FB.out.eZ;refine aM (v:=.tuple #[bA #[V O me,J no nn nc,J ao n2 ac,J so sn sc,J eo n3 ec,J oo dN oc],aB aD]) (by simp [results,aX,go_sem,v0,v1,v2,v3,v4,v5]) rfl ?_;rw [LB.out];exact⟨⟨(eo,n3,ec),es,rfl,cB ⟨rfl,rfl,rfl⟩,HR2.out⟩,BL.out⟩
theorem jk (b:Br) (e:En):(gN b e).1.me=b.me/\(gN b e).1.near=b.near/\(gN b e).1.dL=b.dL/\(gN b e).1.seen=b.seen/\(gN b e).1.own=b.own:=by
 unfold gN
 split
 ·exact⟨rfl,rfl,rfl,rfl,rfl⟩
 ·split
  ·exact⟨rfl,rfl,rfl,rfl,rfl⟩
  ·split
   ·exact⟨rfl,rfl,rfl,rfl,rfl⟩
   ·split <;> exact⟨rfl,rfl,rfl,rfl,rfl⟩
theorem Q9 (b:Br) (nv av sv ev ov:Sl) (z:iB) (e:En) (w:aN) (h_:gZ w b nv av sv ev ov) (hz:iX w z e) (l2:b.dL.length<=900) (l3:b.ent.length<=900) (hok:∀ e∈b.ent,dM e.p) (hop:dM e.p) :
  Calls aj 57 #[nG b.me nv av sv ev ov,qX z] w fun e' w'=>(∃ ev':Sl,e'=bG (.tuple #[nG b.me nv av sv ev' ov,aB (gN b e).2])/\gZ w' (gN b e).1 nv av sv ev' ov)/\Below w.heap.size w w':=by
 obtain⟨es,he1,he2⟩:=h_.ent;refine (sJ b nv av sv ev ov z e w es (iX w) h_ he1 he2 he2 (fun u=>⟨hz.1,hz.2.1,hz.2.2.1,rfl,hz.2.2.2.2⟩) hz l2 l3 hok hop).mono ?_;rintro e1 w1 ⟨⟨ev',xs,rfl,hr,hx⟩,hb⟩;refine⟨⟨ev',rfl,?_⟩,hb⟩;have hI:=h_.on hb;obtain⟨_,a2,a3,a4,a5⟩:=jk b e;refine⟨by rw [a2]; exact hI.near,by rw [a3]; exact hI.dL,by rw [a4]; exact hI.seen,⟨xs,?_,hx.mono fun _ _ h=>h.on hb⟩,by rw [a5]; exact hI.own⟩;rcases hr with⟨h1,h2,_⟩|hr
 ·rw [h1,h2];exact he1.on hb
 ·exact aQ hr
end Bk
namespace Bk
open Go.RowKit Go.Sort Rw YtkcfgbddlpomgaaGreat.Nm Pr
open Av
def Vd (e:En):En:={ e with up:=aU }
def ig (t:Id) (s:List En×List En) (k:Nat):List En×List En:=match s.1[k]? with
 | none=>s
 | some e=>if e.tree=t/\e.up=aD/\eP s.1 t e.p=aD then (s.1.set k (Vd e),s.2++[Vd e]) else s
def iI (t:Id) (m:List En) (k:Nat):List En×List En:=(List.range k).foldl (ig t) (m,[])
def takeB (b:Br) (t s:Id) (f:Int):Br×List En×Bool:=match b.ent[(iH (b.ent.map eY) (t,s)).toNat]? with
 | none=>(b,[],aD)
 | some e=>if iH (b.ent.map eY) (t,s)=-1 then (b,[],aD) else if e.from_≠f then (b,[],aD) else
  if e.up=aD then ({ b with ent:=cutAt b.ent (iH (b.ent.map eY) (t,s)).toNat },[],aD) else
  ({ b with ent:=(iI t (cutAt b.ent (iH (b.ent.map eY) (t,s)).toNat) (cutAt b.ent (iH (b.ent.map eY) (t,s)).toNat).length).1 },(iI t (cutAt b.ent (iH (b.ent.map eY) (t,s)).toNat) (cutAt b.ent (iH (b.ent.map eY) (t,s)).toNat).length).2,aU)
theorem lU (t:Id) (m:List En) (k:Nat):iI t m (k+1)=ig t (iI t m k) k:=by
 simp [iI,List.range_succ]
theorem D8 (t:Id) (s:List En×List En) (k:Nat):(ig t s k).1.length=s.1.length/\(ig t s k).2.length<=s.2.length+1:=by
 unfold ig
 split
 ·exact⟨rfl,Nat.le_succ _⟩
 ·split
  ·simp
  ·exact⟨rfl,Nat.le_succ _⟩
theorem nJ (t:Id) (m:List En):∀ k,(iI t m k).1.length=m.length/\(iI t m k).2.length<=k
 | 0=>⟨rfl,aI _⟩
 | k+1=>by
  rw [lU];have h1:=nJ t m k;have h2:=D8 t (iI t m k) k;omega
theorem Gp {t:Id} {m:List En} (P:List C5->Prop) (h:∀ e∈m,P e.p):∀ k,(∀ e∈(iI t m k).1,P e.p)/\∀ e∈(iI t m k).2,P e.p
 | 0=>⟨h,fun e he=>by simp [iI] at he⟩
 | k+1=>by
  have ih:=Gp (t:=t) P h k;rw [lU];unfold ig
  split
  ·exact ih
  ·rename_i e he
   split
   ·refine⟨fun x hx=>?_,fun x hx=>?_⟩
    ·rcases bP hx with h1|h1
     ·exact ih.1 x h1
     ·rw [h1];exact ih.1 e (aW he)
    ·rcases bK.1 hx with h1|h1
     ·exact ih.2 x h1
     ·rw [cK.1 h1];exact ih.1 e (aW he)
   ·exact ih
theorem Gq:∀ (l:List iB) (k:Nat) (x:iB),l[k]?=X x->flat EN (l.set k (x.1,x.2.1,x.2.2.1,x.2.2.2.1,x.2.2.2.2.1,x.2.2.2.2.2.1,aU))=(flat EN l).set (k * 7+6) (aB aU)
 | [],k,x,h=>by simp at h
 | y::r,0,x,h=>by
  obtain rfl:y=x:=by simpa using h
  rfl
 | y::r,k+1,x,h=>by
  have ih:=Gq r k x (by simpa using h);rw [show (k+1) * 7+6=(k * 7+6)+1+1+1+1+1+1+1 by omega];simp only [cO,flat,EN,iE,List.cons_append,List.nil_append] at ih ⊢;rw [ih]
theorem VI {w:aN} {B g n cap k:Nat} {l:List iB} {x:iB} (h:jw w B (J (X ⟨g,0,Y⟩) n cap) l) (hk:l[k]?=X x) :
  jw (w.setCell ⟨g,k * 7+6,Y⟩ (aB aU)) B (J (X ⟨g,0,Y⟩) n cap) (l.set k (x.1,x.2.1,x.2.2.1,x.2.2.2.1,x.2.2.2.2.1,x.2.2.2.2.2.1,aU))/\w.cell? ⟨g,k * 7+6,Y⟩=X (aB x.2.2.2.2.2.2)/\w.frozen? ⟨g,k * 7+6,Y⟩=aD:=by
 have c:=jS nR h hk w (ah _ _);have c6:=c 6 _ rfl;simp [Addr.add,EN] at c6;obtain⟨cur,hb⟩:=jN h;obtain⟨ao,c',hv⟩:=(aQ h).len;obtain⟨_,rfl,_⟩:X ⟨g,0,Y⟩=ao/\n=l.length/\cap=c':=by simpa using hv
 have h:w.ownsRow B 68 7 (J (X ⟨g,0,Y⟩) l.length cap) l.length (flat EN l):=h;have t1:=(h.stored (k * 7+6) (aB aU)).1;refine⟨?_,c6,hb.fr _⟩;have e:=Gq l k x hk;show World.ownsRow _ B 68 7 _ (List.length _) (flat EN _);rw [e,List.length_set];exact t1
theorem dX.set2 {α β:Type} {R:α->β->Prop}:∀ {l:List α} {m:List β} (k:Nat) {a:α} {b:β},dX R l m->R a b->dX R (l.set k a) (m.set k b)
 | _,_,_,_,_,.nil,_=>.nil
 | _,_,0,_,_,.cons _ t,hr=>.cons hr t
 | _,_,k+1,_,_,.cons x t,hr=>.cons x (dX.set2 k t hr)
theorem Gr (w:aN) (c d e f:Array aY) (r s t u:TypeId):Below w.heap.size w ((((w.alloc (Z c r)).alloc (Z d s)).alloc (Z e t)).alloc (Z f u))/\dG ((((w.alloc (Z c r)).alloc (Z d s)).alloc (Z e t)).alloc (Z f u)) w.heap.size c r/\dG ((((w.alloc (Z c r)).alloc (Z d s)).alloc (Z e t)).alloc (Z f u)) (w.heap.size+1) d s/\dG ((((w.alloc (Z c r)).alloc (Z d s)).alloc (Z e t)).alloc (Z f u)) (w.heap.size+1+1) e t/\dG ((((w.alloc (Z c r)).alloc (Z d s)).alloc (Z e t)).alloc (Z f u)) (w.heap.size+1+1+1) f u:=by
 obtain⟨h0,h1,h2,h3⟩:=gL w c d e r s t;refine⟨h0.alloc h0.size _,h1.more _,h2.more _,h3.more _,?_⟩;have h:=dI (((w.alloc (Z c r)).alloc (Z d s)).alloc (Z e t)) f u;have e2:(((w.alloc (Z c r)).alloc (Z d s)).alloc (Z e t)).heap.size=w.heap.size+1+1+1:=by simp
 rw [e2] at h;exact h
theorem Ck (l:List Id) (x:Id) (h:x∈l):∃ k:Nat,eU l x=k/\l[k]?=X x:=by
 induction l with
 | nil=>simp at h
 | cons a r ih =>
  by_cases e:a=x
  ·subst e;exact⟨0,by simp [eU],rfl⟩
  ·have hr:x∈r:=by
    rcases List.mem_cons.1 h with h1|h1
    ·exact absurd h1.symm e
    ·exact h1
   obtain⟨k,h1,h2⟩:=ih hr;refine⟨k+1,?_,by simpa using h2⟩;rw [eU,if_neg e,h1,if_neg (by omega)];omega
theorem wH {t:Id} {m:List En} (R:En->Prop) (hR:∀ e,e.tree=t->R e->R (Vd e)) (h:∀ e∈m,R e):∀ k,(∀ e∈(iI t m k).1,R e)/\∀ e∈(iI t m k).2,R e
 | 0=>⟨h,fun e he=>by simp [iI] at he⟩
 | k+1=>by
  have ih:=wH (t:=t) R hR h k;rw [lU];unfold ig
  split
  ·exact ih
  ·rename_i e he
   split
   ·rename_i hcond
    have hu:=hR e hcond.1 (ih.1 e (aW he));refine⟨fun x hx=>?_,fun x hx=>?_⟩
    ·rcases bP hx with h1|h1
     ·exact ih.1 x h1
     ·rw [h1];exact hu
    ·rcases bK.1 hx with h1|h1
     ·exact ih.2 x h1
     ·rw [cK.1 h1];exact hu
   ·exact ih
theorem qL {α:Type} {l:List α} {k:Nat} {x:α} (h:x∈cutAt l k):x∈l:=by
 rcases bK.1 h with h|h
 ·exact bW h
 ·exact bY h
theorem Nu (b:Br) (nv av sv ev ov:Sl) (x s:Id) (f:Int) (w:aN) (h:gZ w b nv av sv ev ov) (l3:b.ent.length<=900) (hok:∀ e∈b.ent,dM e.p) :
  Calls aj 93 #[nG b.me nv av sv ev ov,lZ x,lZ s,V O f] w fun e w'=>(∃ ev' lo:Sl,e=bG (.tuple #[nG b.me nv av sv ev' ov,dK lo,aB (takeB b x s f).2.2])/\gZ w' (takeB b x s f).1 nv av sv ev' ov/\∃ xs,jX w' (dK lo) xs/\dX (iX w') xs (takeB b x s f).2.1)/\Below w.heap.size w w':=by
 obtain⟨no,nn,nc⟩:=nv;obtain⟨ao,an,ac⟩:=av;obtain⟨so,sn,sc⟩:=sv;obtain⟨eo,en,ec⟩:=ev;obtain⟨oo,dN,oc⟩:=ov;obtain⟨c,d⟩:=x;obtain⟨c2,d2⟩:=s;obtain⟨es,he1,he2⟩:=h.ent;have Vb:=L (keys_eq he2);have EL:=L (show es.length<=900 by rw [he2.len]; exact l3);have HE2:=L he2;have OK:=L hok;obtain⟨q1,q2,hq⟩:=he1.len;obtain⟨rfl,rfl,rfl⟩:eo=q1/\en=es.length/\ec=q2:=by
  have:J eo en ec=J q1 es.length q2:=hq;simpa using this
 have EY:=yU b.me (J no nn nc) (J ao an ac) (J so sn sc) (J oo dN oc) (eo,es.length,ec) es (c,d) (c2,d2);have HH:=L h;obtain⟨h0,h1,h2,h3,h4⟩:=Gr w #[V O b.me,J no nn nc,J ao an ac,J so sn sc,J eo es.length ec,J oo dN oc] #[V O c,V O d] #[V O c2,V O d2] #[V O 0,J Y 0 0,J Y 0 0,J Y 0 0,J Y 0 0,J Y 0 0] 33 38 38 33;obtain⟨n3,Qb⟩:∃ n,n=es.length:=⟨_,rfl⟩;simp only [<- Qb] at h0 h1 h2 h3 h4 he1 HH EY ⊢;obtain⟨me,hme⟩:∃ me,me=b.me:=⟨_,rfl⟩;simp only [<- hme] at h0 h1 h2 h3 h4 EY ⊢;have N3:=L Qb;have gB:=L (h0);have wI:=L (h1);have kJ:=L (h2);have kZ:=L (h3);have AU:=L (h4);have Nv:=L (he1.on h0);have HEW:=L he1;clear h0 h1 h2 h3 h4 he1 he2 h hq Qb l3 hme hok;go_enter Tryz.func93,Tryz.ntmps93;go_upto_region 1 with fail;generalize ((((w.alloc (Z #[V O me,J no nn nc,J ao an ac,J so sn sc,J eo n3 ec,J oo dN oc] 33)).alloc (Z #[V O c,V O d] 38)).alloc (Z #[V O c2,V O d2] 38)).alloc (Z #[V O 0,J Y 0 0,J Y 0 0,J Y 0 0,J Y 0 0,J Y 0 0] 33))=W at *;have SW:=L (EY W Nv.out);clear EY;obtain⟨x0,x1,x2,x3,x4,x5⟩:=wI.out.eZ;obtain⟨y0,y1⟩:=kJ.out.cs2;obtain⟨z0,z1⟩:=kZ.out.cs2;rcases mG (es.map iF) ((c,d),(c2,d2)) with hf|⟨k,hf,hkk⟩
 ·have LB:=L (show takeB b (c,d) (c2,d2) f=(b,[],aD) by
   have hf2:=hf;rw [Vb.out] at hf2;unfold takeB;rw [hf2]
   split
   ·rfl
   ·rw [if_pos rfl])
  rw [hf] at SW;clear hf;go_wp2_with fail;refine SW.out.mono ?_;rintro e1 w1 ⟨rfl,hb⟩;clear SW;clear x0 x1 x2 x3 x4 x5 y0 y1 z0 z1;have lg:=L (gB.out.trans (hb.mono gB.out.size));have lV:=L (wI.out.on hb);have AV:=L (kJ.out.on hb);have q8:=L (kZ.out.on hb);have q9:=L (AU.out.on hb);have aad:=L (Nv.out.on hb);clear gB wI kJ kZ AU Nv;clear hb;obtain⟨x0,x1,x2,x3,x4,x5⟩:=lV.out.eZ;obtain⟨r0,r1,r2,r3,r4,r5⟩:=q9.out.eZ;obtain⟨Cm,Co,Cq,Cr,Ct,Cu⟩:=q9.out.kg;have zz:=q9.out.lt;have FB:=L (dH q9.out (V O me) (J no nn nc) (J ao an ac) (J so sn sc) (J eo n3 ec) (J oo dN oc));have BL:=L (dw (b:=w.heap.size+1+1+1) lg.out (by omega) (V O me) (J no nn nc) (J ao an ac) (J so sn sc) (J eo n3 ec) (J oo dN oc));go_wp2_with fail;obtain⟨v0,v1,v2,v3,v4,v5⟩:=FB.out.eZ;refine aM (v:=.tuple #[bA #[V O me,J no nn nc,J ao an ac,J so sn sc,J eo n3 ec,J oo dN oc],J Y 0 0,aB aD]) (by simp [results,bO,go_sem,v0,v1,v2,v3,v4,v5]) rfl ?_;rw [LB.out];exact⟨⟨(eo,n3,ec),(Y,0,0),rfl,HH.out.on BL.out,[],jf _,.nil⟩,BL.out⟩
 ·rw [hf] at SW;have hk:k<es.length:=by have:=(aV.1 hkk).1; simpa using this
  obtain⟨y,hy⟩:∃ y,es[k]?=X y:=⟨_,ak hk⟩;obtain⟨e0,he0⟩:∃ e,b.ent[k]?=X e:=⟨_,ak (by rw [<- HE2.out.len]; exact hk)⟩;obtain⟨y_,hy_,hye⟩:=HE2.out.at k e0 he0;obtain rfl:y=y_:=aZ (hy.symm.trans hy_);have hkn:k<n3:=by rw [N3.out]; exact hk
  have LB:=L (show takeB b (c,d) (c2,d2) f=if e0.from_≠f then (b,[],aD) else if e0.up=aD then ({ b with ent:=cutAt b.ent k },[],aD) else ({ b with ent:=(iI (c,d) (cutAt b.ent k) (cutAt b.ent k).length).1 },(iI (c,d) (cutAt b.ent k) (cutAt b.ent k).length).2,aU) by
   have hf2:=hf;rw [Vb.out] at hf2;unfold takeB;rw [hf2,bI,he0];simp only;rw [if_neg (by omega)])
  obtain⟨p,ix,px⟩:=Pq Nv.out rfl N3.out.symm hy;obtain⟨t1,t2,t3,t4,⟨po,pn,pc⟩,fr,up⟩:=y;obtain⟨hl1,hl2,hfr,hup,hl5⟩:=hye;simp only at hfr hup;rw [<- hfr,<- hup] at LB;clear hfr hup hl1 hl2 hl5 hy_ he0 e0;have hik:decide ((k:Int)<0)=aD:=decide_eq_false (by omega);have XL:=EL.out;go_wp2_with fail;refine SW.out.mono ?_;rintro e1 w1 ⟨rfl,hb⟩;have xI:=px w1 hb;obtain⟨p0,p1,p2,p3,p4,p5,p6⟩:=xI;clear SW px;clear x0 x1 x2 x3 x4 x5 y0 y1 z0 z1;have lg:=L (gB.out.trans (hb.mono gB.out.size));have lV:=L (wI.out.on hb);have AV:=L (kJ.out.on hb);have q8:=L (kZ.out.on hb);have q9:=L (AU.out.on hb);have aad:=L (Nv.out.on hb);clear gB wI kJ kZ AU Nv;clear hb hf;by_cases hpf:fr=f
  ·rw [if_neg (by simp [hpf])] at LB;have hne:(fr != f)=aD:=by simp [hpf]
   obtain⟨x0,x1,x2,x3,x4,x5⟩:=lV.out.eZ;obtain⟨r0,r1,r2,r3,r4,r5⟩:=q9.out.eZ;obtain⟨Cm,Co,Cq,Cr,Ct,Cu⟩:=q9.out.kg;have zz:=q9.out.lt;go_upto_region 5 with fail;clear zz hne hik ix p0 p1 p2 p3 p4 p5 p6;clear x0 x1 x2 x3 x4 x5 r0 r1 r2 r3 r4 r5 Cm Co Cq Cr Ct Cu;refine aej _ w1 w.heap.size (w.heap.size+1) me _ _ _ _ eo n3 ec k es _ _ _ _ _ _ _ _ _ _ _ _ _ _ _ _ _ _ _ _ _ _ _ _ _ _ _ _ _ _ _ _ _ _ _ _ _ _ _ _ _ _ _ _ _ _ _ _ _ _ _ _ _ _ _ _ _ _ _ _ _ _ _ _ _ _ _ _ _ _ _ _ _ _ _ _ _ _ _ _ _ _ _ _ _ _ _ _ _ _ _ _ _ _ _ _ _ _ _ _ _ lV.out aad.out (by omega) XL ?_;intro xw v39 v40 v41 v42 v43 v44 v45 v46 v47 v48 v49 v50 v51 hbx ho hbl hoth hblk;have CE:=L (show dX (iX w) (es.take k++es.drop (k+1)) (cutAt b.ent k) from (HE2.out.take k).append (HE2.out.drop (k+1)));have OK2:=L (show ∀ e∈cutAt b.ent k,dM e.p from fun e he=>by
    rcases bK.1 he with h|h
    ·exact OK.out e (bW h)
    ·exact OK.out e (bY h))
   have CL:=L (show (es.take k++es.drop (k+1)).length<=900 from by rw [List.length_append,bS,List.length_drop]; omega);generalize es.take k++es.drop (k+1)=cs at *;obtain⟨ea,E8,hev⟩:=(aQ ho).len;obtain⟨n,hn⟩:∃ n,n=cs.length:=⟨_,rfl⟩;rw [<- hn] at hev;subst hev;have N:=L hn;clear hn;have CN:=L (show (cutAt b.ent k).length=n from by rw [N.out,CE.out.len]);have hcl:=CN.out;simp only [hcl] at LB;generalize cutAt b.ent k=cb at *;clear hcl;have lI:=L (lg.out.trans (hbl _ (aI _)));have VJ:=L (hbx);have wZ:=L (hoth _ _ _ (by omega) AV.out);have lK:=L (hoth _ _ _ (by omega) q8.out);have oG:=L (hoth _ _ _ (by omega) q9.out);have Ra:=L (dx ho (show w.heap.size+4<=w1.heap.size by have:=q9.out.lt; omega));have WF:=L (show w.heap.size+4<=xw.heap.size from by have:=oG.out.lt; omega);clear hbx ho hbl hoth hblk lg lV AV q8 q9 aad;cases up
   ·rw [if_pos rfl] at LB;obtain⟨x0,x1,x2,x3,x4,x5⟩:=VJ.out.eZ;obtain⟨r0,r1,r2,r3,r4,r5⟩:=oG.out.eZ;obtain⟨Cm,Co,Cq,Cr,Ct,Cu⟩:=oG.out.kg;have zz:=oG.out.lt;have FB:=L (dH oG.out (V O me) (J no nn nc) (J ao an ac) (J so sn sc) (J ea n E8) (J oo dN oc));have BL:=L (dw (b:=w.heap.size+1+1+1) lI.out (by omega) (V O me) (J no nn nc) (J ao an ac) (J so sn sc) (J ea n E8) (J oo dN oc));have MW:=L (fC Ra.out (w.heap.size+1+1+1) (by omega) (V O me) (J no nn nc) (J ao an ac) (J so sn sc) (J ea n E8) (J oo dN oc));go_wp2_with fail;obtain⟨v0,v1,v2,v3,v4,v5⟩:=FB.out.eZ;refine aM (v:=.tuple #[bA #[V O me,J no nn nc,J ao an ac,J so sn sc,J ea n E8,J oo dN oc],J Y 0 0,aB aD]) (by simp [results,bO,go_sem,v0,v1,v2,v3,v4,v5]) rfl ?_;rw [LB.out];have hI:=HH.out.on BL.out;exact⟨⟨(ea,n,E8),(Y,0,0),rfl,⟨hI.near,hI.dL,hI.seen,⟨cs,aQ MW.out,CE.out.mono fun _ _ h=>h.on BL.out⟩,hI.own⟩,[],jf _,.nil⟩,BL.out⟩
   ·rw [if_neg (by simp)] at LB;have L4:=CL.out;rw [<- N.out] at L4;obtain⟨x0,x1,x2,x3,x4,x5⟩:=VJ.out.eZ;go_wp2_with fail;clear x0 x1 x2 x3 x4 x5
    go_loopw [13,58] (fun v i wr=>∃ (k:Nat) (xs ls:List iB) (a:Option Addr) (c_:Nat),k<=n/\i=V O k/\Below w.heap.size w wr/\w.heap.size+4<=wr.heap.size/\dG wr w.heap.size #[V O me,J no nn nc,J ao an ac,J so sn sc,J a n c_,J oo dN oc] 33/\dG wr (w.heap.size+1) #[V O c,V O d] 38/\dG wr (w.heap.size+1+1+1) #[V O 0,J Y 0 0,J Y 0 0,J Y 0 0,J Y 0 0,J Y 0 0] 33/\jw wr (w.heap.size+4) (J a n c_) xs/\dX (iX w) xs (iI (c,d) cb k).1/\jw wr (w.heap.size+4) v ls/\dX (iX w) ls (iI (c,d) cb k).2) (fun _ i _=>n-(intOf i).toNat)
    case atStart=>exact⟨0,cs,[],ea,E8,bJ _,rfl,lI.out,WF.out,VJ.out,wZ.out,oG.out,Ra.out,CE.out,fF _ _,.nil⟩
    case round =>
     clear WF lI VJ wZ lK oG Ra;obtain⟨k,xs,ls,ea,E8,hk,rfl,hgb,hwf,hx4,hx5,Rb,hoe,hen,hol,hln⟩:=hrel;have Kz:=L (hgb);have tH:=L (hx4);have XF:=L (hx5);have Cv:=L (Rb);have mH:=L (hoe);have KF:=L (hol);have WF:=L hwf;have EN:=L hen;have LN:=L hln;clear hgb hwf hx4 hx5 Rb hoe hen hol hln;have XN:=L (show xs.length=n from by rw [EN.out.len,(nJ _ _ _).1,CN.out]);have LN9:=L (show ls.length<=900 from by rw [LN.out.len]; exact aF (nJ _ _ _).2 (by omega));by_cases hlt:k<n
     ·have hlt':(k:Int)<(n:Int):=by omega
      have hw:IntKind.i64.wrap ((k:Int)+1)=(k:Int)+1:=IntWalk.i64_in _ (by omega);obtain⟨y,hy⟩:∃ y,xs[k]?=X y:=⟨_,ak (by rw [XN.out]; exact hlt)⟩;obtain⟨e,he⟩:∃ e,(iI (c,d) cb k).1[k]?=X e:=⟨_,ak (by rw [<- EN.out.len,XN.out]; exact hlt)⟩;obtain⟨y_,hy_,hye⟩:=EN.out.at k e he;obtain rfl:y=y_:=aZ (hy.symm.trans hy_);have TK:=L (show iI (c,d) cb (k+1)=if e.tree=(c,d)/\e.up=aD/\eP (iI (c,d) cb k).1 (c,d) e.p=aD then ((iI (c,d) cb k).1.set k (Vd e),(iI (c,d) cb k).2++[Vd e]) else iI (c,d) cb k from by rw [lU]; unfold ig; rw [he]);have OKK:=L ((Gp (t:=(c,d)) dM OK2.out k).1);have Rc:=L hye;have HY:=L hy;have OKE:=L (OKK.out e (aW he));clear hy_ hye he;generalize iI (c,d) cb k=mk at *;obtain⟨p,ix,px⟩:=Pq (aQ mH.out) rfl XN.out hy;obtain⟨p0,p1,p2,p3,p4,p5,p6⟩:=px wr (ah _ _);obtain⟨y1,y2,y3,y4,⟨yo,yn,yc⟩,y6,y7⟩:=y;simp only at p0 p1 p2 p3 p4 p5 p6;clear px hy;obtain⟨x0,x1,x2,x3,x4,x5⟩:=tH.out.eZ;go_upto_region 13 with fail;clear x0 x1 x2 x3 x4 x5;clear p0 p1 p2 p3 p4 p5 p6 ix;have NN:=fT wr (Z #[V O y1,V O y2,V O y3,V O y4,J yo yn yc,V O y6,aB y7] 68);have WG:=L NN.size;have mV:=L (Kz.out.trans (NN.mono Kz.out.size));have uQ:=L (tH.out.on NN);have Gs:=L (XF.out.on NN);have xg:=L (Cv.out.on NN);have uR:=L (Bk.dh mH.out NN);have KG:=L (Bk.dh KF.out NN);clear Kz tH XF Cv mH KF;clear NN;have Rf:=L (dI wr #[V O y1,V O y2,V O y3,V O y4,J yo yn yc,V O y6,aB y7] 68);generalize wr.alloc (Z #[V O y1,V O y2,V O y3,V O y4,J yo yn yc,V O y6,aB y7] 68)=wa at *;obtain⟨x0,x1,x2,x3,x4,x5⟩:=uQ.out.eZ;obtain⟨D9,y_1⟩:=Gs.out.cs2;obtain⟨z0,z1,z2,z3,z4,z5,z6⟩:=Rf.out.mP;have TE:=L (show e.tree=(y1,y2) from Rc.out.1.symm);have UE:=L (show e.up=y7 from Rc.out.2.2.2.1.symm);obtain⟨r1,hr1⟩:∃ r,(y1 == c && y2 == d)=r:=⟨_,rfl⟩;have heq:=rG y1 y2 c d r1 hr1;have R1:=L hr1;clear hr1;cases r1
      ·go_wp2_with fail
       go_roundw
       case rel=>exact⟨k+1,xs,ls,ea,E8,by omega,by go_num,mV.out,by have:=WG.out; have:=WF.out; omega,uQ.out,Gs.out,xg.out,uR.out,by rw [TK.out,if_neg (by intro hh; have h1:=hh.1; rw [TE.out] at h1; have h2:=R1.out; simp at h1; simp [h1] at h2)]; exact EN.out,KG.out,by rw [TK.out,if_neg (by intro hh; have h1:=hh.1; rw [TE.out] at h1; have h2:=R1.out; simp at h1; simp [h1] at h2)]; exact LN.out⟩
       case measure=>simp [intOf]; omega
      ·cases y7
       ·obtain⟨cv,hcv⟩:∃ r,eP mk.1 (c,d) e.p=r:=⟨_,rfl⟩;have CO:=uO me (J no nn nc) (J ao an ac) (J so sn sc) (J oo dN oc) (ea,n,E8) xs mk.1 (c,d) (J yo yn yc) e.p wa (aQ uR.out) (EN.out.mono fun _ _ h=>h.on mV.out) (Rc.out.2.2.2.2.on mV.out) OKK.out OKE.out;rw [hcv] at CO;rw [hcv] at TK;clear hcv;go_wp2_with fail;refine CO.mono ?_;rintro e2 wb ⟨rfl,hb⟩;clear CO;clear x0 x1 x2 x3 x4 x5 D9 y_1 z0 z1 z2 z3 z4 z5 z6;have kP:=L (mV.out.trans (hb.mono mV.out.size));have tJ:=L (uQ.out.on hb);have Rh:=L (Gs.out.on hb);have Ri:=L (xg.out.on hb);have tK:=L (Bk.dh uR.out hb);have KJ:=L (Bk.dh KG.out hb);have Cw:=L (Rf.out.on hb);clear mV uQ Gs xg uR KG Rf;have WGb:=L (aF WG.out hb.size);clear hb WG;have WG:=L WGb.out;cases cv
        ·rw [if_pos ⟨by rw [TE.out]; have h:=R1.out; simp at h; rw [h.1,h.2],UE.out,rfl⟩] at TK;have NB:=fT wb (Z #[] 68);obtain⟨va,x1,q1,oa,ga⟩:=iA nR (w:=wb.alloc (Z #[] 68)) wb.heap.size (dI wb #[] 68) (aI _) (aQ (dh tK.out NB)) (by rw [XN.out]; omega) 30;have G1:=L (NB.trans (ga.mono NB.size));have m4:=(tJ.out.on NB).cell 4;simp only [aT,aL,aP] at m4;rcases iP oa with⟨_,h0⟩|⟨g,cg,_,rfl,hBg,_,_⟩
         ·rw [h0] at XN;have:=XN.out;simp at this;omega
         rw [XN.out] at q1 oa;have q1:(aA #[30,30] 30 #[J (X ⟨wb.heap.size,0,Y⟩) 0 0,J ea n E8]).run aj (wb.alloc (Z #[] 68))=.ok (J (X ⟨g,0,Y⟩) n cg) x1:=q1;have OA:=L (dx oa (show w.heap.size+4<=wb.heap.size from by have:=WG.out; have:=WF.out; omega));have GL:=L (aF hBg (aI g));clear oa ga NB;have OLB:=L (KJ.out);have Gt:=L (kP.out.trans (G1.out.mono kP.out.size));have qQ:=L (tJ.out.on G1.out);have XG:=L (Rh.out.on G1.out);have Gu:=L (Ri.out.on G1.out);have KO:=L (Bk.dh tK.out G1.out);have XH:=L (Bk.dh KJ.out G1.out);have pI:=L (Cw.out.on G1.out);clear kP tJ Rh Ri tK KJ Cw;have WG1:=L (aF WG.out G1.out.size);obtain⟨x0,x1,x2,x3,x4,x5⟩:=qQ.out.eZ;obtain⟨xf0,xf1,VL,VN,Nw,VP⟩:=qQ.out.kg;have hl4:=qQ.out.lt;go_upto_region 15 with (first | (at_builtin; refine bf rfl _ _ 30 rfl rfl rfl q1 ?_) | fail)
         clear x0 x1 x2 x3 x4 x5 xf0 xf1 VL VN Nw VP;clear hl4 q1 m4;have X4b:=dO (k:=4) qQ.out (J (X ⟨g,0,Y⟩) n cg);simp only [List.setIfInBounds_toArray,List.set_cons_zero,cO] at X4b;have BK:=dQ x1 w.heap.size 4 (J (X ⟨g,0,Y⟩) n cg);have GB2:=L (Gt.out.setCell (p:=⟨w.heap.size,4,Y⟩) (aI _) (J (X ⟨g,0,Y⟩) n cg));have Y4:=L X4b;have Y5:=L (BK.box XG.out (by omega));have Y8:=L (BK.box Gu.out (by omega));have OA2:=L (dW OA.out w.heap.size 4 (J (X ⟨g,0,Y⟩) n cg) (by omega));have OL2:=L (dW XH.out w.heap.size 4 (J (X ⟨g,0,Y⟩) n cg) (by omega));have WG2:=L (show wr.heap.size<=(x1.setCell ⟨w.heap.size,4,Y⟩ (J (X ⟨g,0,Y⟩) n cg)).heap.size from by have:=WG1.out; simpa using this);clear X4b BK OA WG1 Gt qQ XG Gu KO XH pI;generalize x1.setCell ⟨w.heap.size,4,Y⟩ (J (X ⟨g,0,Y⟩) n cg)=x2 at *;have UP:=VI OA2.out HY.out;obtain⟨u1,u2,u3⟩:=UP;simp only at u1 u2;have ix:=nE nR g k n cg hlt;have ix:∀ w,(bR 30 (J (X ⟨g,0,Y⟩) n cg) (V O (k:Int))).run aj w=.ok (aK (X ⟨g,k * 7,Y⟩)) w:=ix;have x4:=Y4.out.cell 4;simp only [aT,aL,aP] at x4;have OU:=L u1;clear u1;have gl:g<x2.heap.size:=by obtain⟨cur,hb⟩:=jN OA2.out; exact hb.lt
         go_upto_region 16 with fail;clear u2 u3 x4 gl;have BG:=dQ x2 g (k * 7+6) (aB aU);have GG:=L (show w.heap.size+4<=g from by have:=WG.out; have:=WF.out; have:=GL.out; omega);have GB3:=L (GB2.out.setCell (p:=⟨g,k * 7+6,Y⟩) (by have:=GG.out; show w.heap.size<=g; omega) (aB aU));have Z4:=L (BG.box Y4.out (by have:=GG.out; omega));have Z5:=L (BG.box Y5.out (by have:=GG.out; omega));have Z8:=L (BG.box Y8.out (by have:=GG.out; omega));have LG:=L (show u13.ownBlock=Y\/u13.ownBlock≠X g from by
          cases hob:u13.ownBlock with
          | none=>exact cB rfl
          | some j =>
           refine aO fun e=>?_;injection e with e
           have h1:=(OLB.out.lt j hob).2;have h2:=GL.out;omega)
         have OL3:=L (OL2.out.kept (w':=x2.setCell ⟨g,k * 7+6,Y⟩ (aB aU)) (row:=X g) ⟨rfl,rfl,rfl,by simp [World.setCell],fun j _ hne=>au _ _ _ _ (fun e=>hne (by rw [e]))⟩ LG.out);have WG3:=L (show wr.heap.size<=(x2.setCell ⟨g,k * 7+6,Y⟩ (aB aU)).heap.size from by have:=WG2.out; simpa using this);clear BG GB2 Y4 Y5 Y8 OA2 OL2 WG2;generalize x2.setCell ⟨g,k * 7+6,Y⟩ (aB aU)=x3 at *;have OU2:=OU.out;have hset:(xs.set k (y1,y2,y3,y4,(yo,yn,yc),y6,aU))[k]?=X (y1,y2,y3,y4,(yo,yn,yc),y6,aU):=List.getElem?_set_self (by rw [XN.out]; exact hlt);have ce:∀ j u,(iE (y1,y2,y3,y4,(yo,yn,yc),y6,aU))[j]?=X u->x3.cell? ((⟨g,k * 7,Y⟩:Addr).add j)=X u:=jS nR OU2 hset x3 (ah _ _);have c0_:=ce 0 _ rfl;have c1_:=ce 1 _ rfl;have c2_:=ce 2 _ rfl;have c3_:=ce 3 _ rfl;have c4_:=ce 4 _ rfl;have c5_:=ce 5 _ rfl;have c6_:=ce 6 _ rfl;simp [Addr.add] at c0_ c1_ c2_ c3_ c4_ c5_ c6_;have x4:=Z4.out.cell 4;simp only [aT,aL,aP] at x4;have hlit:=gH nR x3 [(y1,y2,y3,y4,(yo,yn,yc),y6,aU)] 1 rfl (by simp) #[V O y1,V O y2,V O y3,V O y4,J yo yn yc,V O y6,aB aU] rfl;have NB:=fT x3 (Z #[V O y1,V O y2,V O y3,V O y4,J yo yn yc,V O y6,aB aU] 68);have hB:w.heap.size+4<=(x3.alloc (Z #[V O y1,V O y2,V O y3,V O y4,J yo yn yc,V O y6,aB aU] 68)).heap.size:=aF (aF WF.out WG3.out) NB.size;obtain⟨v',x5,q2,o2,g2⟩:=fO nR (w.heap.size+4) (dh OL3.out NB) (aQ hlit) (by have:=LN9.out; omega) (by simp) hB 30;have q2:(aA #[30,30] 30 #[u13,J (X ⟨x3.heap.size,0,Y⟩) 1 1]).run aj (x3.alloc (Z #[V O y1,V O y2,V O y3,V O y4,J yo yn yc,V O y6,aB aU] 68))=.ok v' x5:=q2;have GF:=L (show Below w.heap.size w x5 from ((GB3.out.trans (NB.mono GB3.out.size)).grown g2 (by omega) fun j hj=>by have:=((dh OL3.out NB).lt j hj).1; omega));have BO:=L (show ∀ j,j<x3.heap.size->X j≠u13.ownBlock->x5.heap[j]?=x3.heap[j]? from fun j hj hne=>(g2.block j (bF hj NB.size) hne).trans (NB.block j hj));have ZX:=fun (bb:Nat) (cs:Array aY) (tt:TypeId) (hbb:bb<w.heap.size+4) (hbx:dG x3 bb cs tt)=>show dG x5 bb cs tt from (BO.out bb hbx.lt (fun e=>by have:=(OL3.out.lt bb e.symm).1; omega)).trans hbx;have V4:=L (ZX _ _ _ (by omega) Z4.out);have V5:=L (ZX _ _ _ (by omega) Z5.out);have V8:=L (ZX _ _ _ (by omega) Z8.out);have OU5:=L (show jw x5 (w.heap.size+4) (J (X ⟨g,0,Y⟩) n cg) (xs.set k (y1,y2,y3,y4,(yo,yn,yc),y6,aU)) from by
          have h1:=Bk.dh OU.out NB;exact h1.kept g2 (by
           cases hob:u13.ownBlock with
           | none=>exact aO (by simp [Value.ownBlock])
           | some j =>
            refine aO fun e=>?_;have h2:=LG.out;rw [hob] at h2;rcases h2 with h2|h2
            ·cases h2
            ·exact h2 (by rw [<- e]; rfl)))
         have O2:=L o2;have W5:=L (aF WG3.out (aF NB.size g2.size));clear hlit hB o2 g2 ZX BO OU2 NB hset ce;go_wp2_with (first | (at_builtin; refine bf rfl _ _ 30 rfl rfl rfl q2 ?_) | fail)
         go_roundw
         case rel=>exact⟨k+1,_,_,X ⟨g,0,Y⟩,cg,by omega,by go_num,GF.out,by have:=WF.out; have:=W5.out; omega,V4.out,V5.out,V8.out,OU5.out,by
          rw [TK.out];exact EN.out.set2 k ⟨Rc.out.1,Rc.out.2.1,Rc.out.2.2.1,rfl,Rc.out.2.2.2.2⟩,O2.out,by
          rw [TK.out];exact LN.out.append (.cons ⟨Rc.out.1,Rc.out.2.1,Rc.out.2.2.1,rfl,Rc.out.2.2.2.2⟩ .nil)⟩
         case measure=>simp [intOf]; omega
        ·go_wp2_with fail
         go_roundw
         case rel=>exact⟨k+1,xs,ls,ea,E8,by omega,by go_num,kP.out,by have:=WG.out; have:=WF.out; omega,tJ.out,Rh.out,Ri.out,tK.out,by rw [TK.out,if_neg (by simp)]; exact EN.out,KJ.out,by rw [TK.out,if_neg (by simp)]; exact LN.out⟩
         case measure=>simp [intOf]; omega
       ·go_wp2_with fail
        go_roundw
        case rel=>exact⟨k+1,xs,ls,ea,E8,by omega,by go_num,mV.out,by have:=WG.out; have:=WF.out; omega,uQ.out,Gs.out,xg.out,uR.out,by rw [TK.out,if_neg (by intro hh; have h1:=hh.2.1; rw [UE.out] at h1; cases h1)]; exact EN.out,KG.out,by rw [TK.out,if_neg (by intro hh; have h1:=hh.2.1; rw [UE.out] at h1; cases h1)]; exact LN.out⟩
        case measure=>simp [intOf]; omega
     ·obtain rfl:k=n:=by omega
      obtain⟨x0,x1,x2,x3,x4,x5⟩:=tH.out.eZ;obtain⟨la,lc,hlv⟩:=(aQ KF.out).len;obtain⟨ln,hln⟩:∃ n,n=ls.length:=⟨_,rfl⟩;rw [<- hln] at hlv;subst hlv;clear hln;obtain⟨r0,r1,r2,r3,r4,r5⟩:=Cv.out.eZ;obtain⟨Cm,Co,Cq,Cr,Ct,Cu⟩:=Cv.out.kg;have zz:=Cv.out.lt;have FB:=L (dH Cv.out (V O me) (J no nn nc) (J ao an ac) (J so sn sc) (J ea k E8) (J oo dN oc));have BL:=L (dw (b:=w.heap.size+1+1+1) Kz.out (by omega) (V O me) (J no nn nc) (J ao an ac) (J so sn sc) (J ea k E8) (J oo dN oc));have MW:=L (fC mH.out (w.heap.size+1+1+1) (by omega) (V O me) (J no nn nc) (J ao an ac) (J so sn sc) (J ea k E8) (J oo dN oc));have OL2:=L (fC KF.out (w.heap.size+1+1+1) (by omega) (V O me) (J no nn nc) (J ao an ac) (J so sn sc) (J ea k E8) (J oo dN oc));go_wp2_with fail;obtain⟨v0,v1,v2,v3,v4,v5⟩:=FB.out.eZ;refine aM (v:=.tuple #[bA #[V O me,J no nn nc,J ao an ac,J so sn sc,J ea k E8,J oo dN oc],J la ln lc,aB aU]) (by simp [results,bO,go_sem,v0,v1,v2,v3,v4,v5]) rfl ?_;rw [LB.out];have hI:=HH.out.on BL.out;exact⟨⟨(ea,k,E8),(la,ln,lc),rfl,⟨hI.near,hI.dL,hI.seen,⟨xs,aQ MW.out,EN.out.mono fun _ _ h=>h.on BL.out⟩,hI.own⟩,ls,aQ OL2.out,LN.out.mono fun _ _ h=>h.on BL.out⟩,BL.out⟩
  ·rw [if_pos hpf] at LB;have hne:(fr != f)=aU:=by simp [hpf]
   obtain⟨x0,x1,x2,x3,x4,x5⟩:=lV.out.eZ;obtain⟨r0,r1,r2,r3,r4,r5⟩:=q9.out.eZ;obtain⟨Cm,Co,Cq,Cr,Ct,Cu⟩:=q9.out.kg;have zz:=q9.out.lt;have FB:=L (dH q9.out (V O me) (J no nn nc) (J ao an ac) (J so sn sc) (J eo n3 ec) (J oo dN oc));have BL:=L (dw (b:=w.heap.size+1+1+1) lg.out (by omega) (V O me) (J no nn nc) (J ao an ac) (J so sn sc) (J eo n3 ec) (J oo dN oc));go_wp2_with fail;obtain⟨v0,v1,v2,v3,v4,v5⟩:=FB.out.eZ;refine aM (v:=.tuple #[bA #[V O me,J no nn nc,J ao an ac,J so sn sc,J eo n3 ec,J oo dN oc],J Y 0 0,aB aD]) (by simp [results,bO,go_sem,v0,v1,v2,v3,v4,v5]) rfl ?_;rw [LB.out];exact⟨⟨(eo,n3,ec),(Y,0,0),rfl,HH.out.on BL.out,[],jf _,.nil⟩,BL.out⟩
structure Ou where
 gQ:Int
 kind:Int
 tree:Id
 id:Id
 p:List C5
def rQ (W:aN) (x:nH) (o:Ou):Prop:=x.1=o.gQ/\x.2.1=o.kind/\(x.2.2.1,x.2.2.2.1)=o.tree/\(x.2.2.2.2.1,x.2.2.2.2.2.1)=o.id/\fG W (dK x.2.2.2.2.2.2.1) o.p/\x.2.2.2.2.2.2.2=(Y,0,0)
theorem rQ.on {W W':aN} {x:nH} {o:Ou} (h:rQ W x o) (hb:Below W.heap.size W W'):rQ W' x o:=⟨h.1,h.2.1,h.2.2.1,h.2.2.2.1,h.2.2.2.2.1.on hb,h.2.2.2.2.2⟩
def kK (W:aN) (s:Sl) (l:List Ou):Prop:=∃ xs,FM W (dK s) xs/\dX (rQ W) xs l
theorem kK.on {W W':aN} {s:Sl} {l:List Ou} (h:kK W s l) (hb:Below W.heap.size W W'):kK W' s l:=by
 obtain⟨xs,h1,h2⟩:=h;exact⟨xs,h1.on hb,h2.mono fun _ _ h=>h.on hb⟩
theorem pJ (W:aN):kK W (Y,0,0) []:=⟨[],jf _,.nil⟩
def AX (gQ:Int) (e:En):Ou:=⟨gQ,3,e.tree,e.sub,e.p⟩
abbrev Jv (gQ:Int) (x:iB):nH:=(gQ,3,x.1,x.2.1,x.2.2.1,x.2.2.2.1,x.2.2.2.2.1,(Y,0,0))
theorem aaf {W:aN} {x:iB} {e:En} (h:iX W x e) (t:Int):rQ W (Jv t x) (AX t e):=⟨rfl,rfl,h.1,h.2.1,h.2.2.2.2,rfl⟩
def jJ (b:Br) (t x:Id) (f:Int):Br×List Ou:=if (takeB b t x f).2.2=aD then ((takeB b t x f).1,[]) else
 match b.dL[(eU (b.dL.map Ad.id) t).toNat]? with
 | none=>((takeB b t x f).1,[])
 | some a=>((takeB b t x f).1,(takeB b t x f).2.1.map (AX a.par)++[⟨a.par,4,t,x,[]⟩])
theorem jl (b:Br) (t x:Id) (f:Int):(takeB b t x f).1.dL=b.dL/\(takeB b t x f).1.near=b.near/\(takeB b t x f).1.me=b.me/\(takeB b t x f).1.seen=b.seen/\(takeB b t x f).1.own=b.own:=by
 unfold takeB
 split
 ·exact⟨rfl,rfl,rfl,rfl,rfl⟩
 ·split
  ·exact⟨rfl,rfl,rfl,rfl,rfl⟩
  ·split
   ·exact⟨rfl,rfl,rfl,rfl,rfl⟩
   ·split <;> exact⟨rfl,rfl,rfl,rfl,rfl⟩
theorem Jw {b:Br} {t x:Id} {f:Int} (h:(takeB b t x f).2.2=aU):∃ e∈b.ent,e.tree=t:=by
 unfold takeB at h
 split at h
 ·cases h
 ·rename_i e he
  split at h
  ·cases h
  ·rename_i h1
   rcases mG (b.ent.map eY) (t,x) with h2|⟨k,h2,h3⟩
   ·exact absurd h2 h1
   ·rw [h2,bI] at he;refine⟨e,aW he,?_⟩;rw [aR,he] at h3;exact congrArg Prod.fst (aZ h3)
theorem sK (b:Br) (t x:Id) (f:Int):(takeB b t x f).1.ent.length<=b.ent.length/\(takeB b t x f).2.1.length<=b.ent.length:=by
 unfold takeB
 split
 ·simp
 ·split
  ·simp
  ·split
   ·simp
   ·have hc:(cutAt b.ent (iH (b.ent.map eY) (t,x)).toNat).length<=b.ent.length:=by
     unfold cutAt;rw [List.length_append,bS,List.length_drop];omega
    split
    ·exact⟨hc,by simp⟩
    ·have h1:=nJ t (cutAt b.ent (iH (b.ent.map eY) (t,x)).toNat) (cutAt b.ent (iH (b.ent.map eY) (t,x)).toNat).length;exact⟨by rw [show ((iI t _ _).1.length)=_ from h1.1]; exact hc,aF h1.2 hc⟩
theorem uS {W x:aN} {b F0:Nat} {cs:Array aY} {t:TypeId} (h:dG W b cs t) (hb:Below F0 W x) (hl:b<F0):dG x b cs t:=(hb.block b hl).trans h
def oV (W:Nat) (bv:aY) (c d c2 d2:Int) (av:aY) (ki:Nat) (p:Addr) (gQ:Int) (po:Option Addr) (pn pc:Nat) (fr:Int) (up:Bool) (b3 b5:Nat) (i:Nat) (v:aY) (x:aN):Prop :=
 match i with
 | 0=>v=bv
 | 1=>v=aK (X ⟨b3,2,Y⟩)
 | 2=>v=av
 | 3=>v=bv
 | 4=>v=aK (X ⟨b5,1,Y⟩)
 | 5=>v=lZ (c,d)
 | 6=>v=V O (ki:Int)
 | 7=>v=aK (X p)
 | 8=>v=aK (X ⟨p.block,p.off+3,Y⟩)
 | 9=>v=V O gQ
 | 10=>v=qX (c,d,c2,d2,(po,pn,pc),fr,up)
 | 11=>v=bA #[V O 3,V O c,V O d,V O c2,V O d2,J po pn pc,J Y 0 0]
 | 12=>v=yL (gQ,3,c,d,c2,d2,(po,pn,pc),(Y,0,0))
 | 13=>iQ x W v [(gQ,3,c,d,c2,d2,(po,pn,pc),(Y,0,0))]
 | 15=>iQ x W v [(gQ,3,c,d,c2,d2,(po,pn,pc),(Y,0,0))]
 | _=>True
def oF (W:aN) (b6:Nat) (bc:Array aY) (D:Nat->Prop) (x:aN):Prop :=
 (∀ j,j<W.heap.size->j≠b6->x.heap[j]?=W.heap[j]?)/\(∀ B,B<=b6->Below B W x)/\(¬ D 14->Below W.heap.size W x)/\(D 14->dG x b6 bc 33)/\W.heap.size<=x.heap.size
noncomputable def XI:Code:=((Tryz.f63.body.bind (eu 5)).getD .skip)
theorem aag (Q:Exit->Act->aN->Prop) (W:aN) (b3 b5 b6 b8:Nat) (me mk c d c2 d2 fr gQ:Int) (up:Bool) (o1 o2 o3 o4 o5:Option Addr) (n1 k1 n2 k2 n3 k3 n4 k4 n5 k5:Nat) (po qo:Option Addr) (pn pc qn qc:Nat) (ad:List jv) (ki:Nat) (p:Addr) (z0 z1 z2 z3 z4 z5:aY) (u0 u1 u2 u4 u7 u9 u10 u11 u12 u13 u14 u15 u16 u17 u18 u19 u20 u21 u22 u23 u24 u25 u26 u27 u28 u29 u30 u31 u32 u33 u34 u35 u36 u37 u38 u39 u40:aY)
  (h3:dG W b3 #[V O me,J o1 n1 k1,J o2 n2 k2,J o3 n3 k3,J o4 n4 k4,J o5 n5 k5] 33) (h5:dG W b5 #[V O mk,V O c,V O d,V O c2,V O d2,J po pn pc,J qo qn qc] 43) (h6:dG W b6 #[z0,z1,z2,z3,z4,z5] 33) (h8:dG W b8 #[V O c,V O d,V O c2,V O d2,J po pn pc,V O fr,aB up] 68) (n3_:b3≠b6) (n5_:b5≠b6) (n8_:b8≠b6) (hd:uH W (J o2 n2 k2) ad) (fk:eU (ad.map fun y=>(y.1,y.2.1)) (c,d)=ki) (ix:∀ w,(bR 28 (J o2 n2 k2) (V O (ki:Int))).run aj w=.ok (aK (X p)) w) (px:W.cell? ⟨p.block,p.off+3,Y⟩=X (V O gQ)) (pl:p.block<W.heap.size) (pn_:p.block≠b6)
  (hQ:∀ (a:Act) (x:aN) (sl:Sl),a.defers=[]->a.tmps[6]?=X (aK (X ⟨b6,0,Y⟩))->a.tmps[7]?=X (dK sl)->dG x b6 #[V O me,J o1 n1 k1,J o2 n2 k2,J o3 n3 k3,J o4 n4 k4,J o5 n5 k5] 33->iQ x W.heap.size (dK sl) [(gQ,3,c,d,c2,d2,(po,pn,pc),(Y,0,0))]->(∀ k,k<W.heap.size->k≠b6->x.heap[k]?=W.heap[k]?)->(∀ B,B<=b6->Below B W x)->Q .normal a x) :
  Code.wp aj XI Q ⟨(u0::u1::u2::aK (X ⟨b3,0,Y⟩)::u4::aK (X ⟨b5,0,Y⟩)::aK (X ⟨b6,0,Y⟩)::u7::aK (X ⟨b8,0,Y⟩)::u9::u10::u11::u12::u13::u14::u15::u16::u17::u18::u19::u20::u21::u22::u23::u24::u25::u26::u27::u28::u29::u30::u31::u32::u33::u34::u35::u36::u37::u38::u39::u40::[]).toArray,[]⟩ W:=by
 have HQ:=L hQ;have H3:=L h3;have H5:=L h5;have H6:=L h6;have H8:=L h8;have N3:=L n3_;have N5:=L n5_;have N8:=L n8_;have HD:=L hd;have FK:=L fk;have IX:=L ix;have PX:=L px;have PL:=L pl;have PN:=L pn_;clear hQ h3 h5 h6 h8 n3_ n5_ n8_ hd fk ix px pl pn_;unfold XI
 conv=>arg 2; whnf
 have nd:∀ j,(∀ i,i<16->[X 27,X 28,X 29,X 30,X 31,X 32,X 33,X 34,X 35,X 36,X 37,X 38,X 39,X 40,Y,X 7].getD i Y≠X j)->∀ i,i<16->(fun i=>[X 27,X 28,X 29,X 30,X 31,X 32,X 33,X 34,X 35,X 36,X 37,X 38,X 39,X 40,Y,X 7].getD i Y) i≠X j:=fun j h=>h;refine Rg.wY 16 (fun i=>[X 27,X 28,X 29,X 30,X 31,X 32,X 33,X 34,X 35,X 36,X 37,X 38,X 39,X 40,Y,X 7].getD i Y) (fun _=>16) (oV W.heap.size (bA #[V O me,J o1 n1 k1,J o2 n2 k2,J o3 n3 k3,J o4 n4 k4,J o5 n5 k5]) c d c2 d2 (J o2 n2 k2) ki p gQ po pn pc fr up b3 b5) (oF W b6 #[V O me,J o1 n1 k1,J o2 n2 k2,J o3 n3 k3,J o4 n4 k4,J o5 n5 k5]) (by kernel_rfl) (by kernel_rfl) rfl (fun i j e hi hj h1 h2=>(by decide:∀ i,i<16->∀ j,j<16->([X 27,X 28,X 29,X 30,X 31,X 32,X 33,X 34,X 35,X 36,X 37,X 38,X 39,X 40,Y,X 7].getD i Y).isSome=aU->[X 27,X 28,X 29,X 30,X 31,X 32,X 33,X 34,X 35,X 36,X 37,X 38,X 39,X 40,Y,X 7].getD i Y=[X 27,X 28,X 29,X 30,X 31,X 32,X 33,X 34,X 35,X 36,X 37,X 38,X 39,X 40,Y,X 7].getD j Y->i=j) i hi j hj (by have h1:[X 27,X 28,X 29,X 30,X 31,X 32,X 33,X 34,X 35,X 36,X 37,X 38,X 39,X 40,Y,X 7].getD i Y=X e:=h1; rw [h1]; rfl) (h1.trans h2.symm)) (fun i e hi h=>(by decide:∀ i,i<16->∀ q∈[X 27,X 28,X 29,X 30,X 31,X 32,X 33,X 34,X 35,X 36,X 37,X 38,X 39,X 40,Y,X 7].getD i Y,q<41) i hi e h) ⟨fun _ _ _=>rfl,fun _ _=>(ah _ _).drew,fun _=>(ah _ _).drew,False.elim,aI _⟩ ?_ ?_
 ·intro i o hi ho a x D hnd hc hD hF seen K hK;clear HQ;have still:∀ i,i≠14->oF W b6 #[V O me,J o1 n1 k1,J o2 n2 k2,J o3 n3 k3,J o4 n4 k4,J o5 n5 k5] (fun j=>j=i\/D j) x:=fun i h9=>⟨hF.1,hF.2.1,fun h=>hF.2.2.1 fun h2=>h (aO h2),fun h=>hF.2.2.2.1 (h.resolve_left (Ne.symm h9)),hF.2.2.2.2⟩;rcases (by omega:i=0\/i=1\/i=2\/i=3\/i=4\/i=5\/i=6\/i=7\/i=8\/i=9\/i=10\/i=11\/i=12\/i=13\/i=14\/i=15) with rfl|rfl|rfl|rfl|rfl|rfl|rfl|rfl|rfl|rfl|rfl|rfl|rfl|rfl|rfl|rfl
  ·cases ho;have e3:a.eval (aH 3)=aK (X ⟨b3,0,Y⟩):=seen.kp 3 _ (nd 3 (by decide)) rfl;have Rj:=show dG x _ _ _ from (hF.1 _ H3.out.lt N3.out).trans H3.out;exact bE rfl rfl (Rg.dR a.eval _ 33 (aH 3) rfl (by rw [e3]; exact wm Rj)) (hK _ _ rfl (still 0 (by decide)) fun _ _ _ _ _ _ _ h=>h)
  ·cases ho;have e3:a.eval (aH 3)=aK (X ⟨b3,0,Y⟩):=seen.kp 3 _ (nd 3 (by decide)) rfl;exact bE rfl rfl (Rg.dJ a.eval _ 33 (aH 3) 2 rfl (by rw [e3]; simp [go_sem])) (hK _ _ rfl (still 1 (by decide)) fun _ _ _ _ _ _ _ h=>h)
  ·cases ho;have e28:a.eval (aH 28)=aK (X ⟨b3,2,Y⟩):=seen.at_ ⟨1,.data⟩ (by simp) rfl (aO (by decide)) _ rfl;have Rj:=show dG x _ _ _ from (hF.1 _ H3.out.lt N3.out).trans H3.out;have y:=Rj.cell 2;simp only [aT,aL,aP] at y;exact bE rfl rfl (Rg.dR a.eval _ 28 (aH 28) rfl (by rw [e28]; simp [go_sem,y])) (hK _ _ rfl (still 2 (by decide)) fun _ _ _ _ _ _ _ h=>h)
  ·cases ho;have e3:a.eval (aH 3)=aK (X ⟨b3,0,Y⟩):=seen.kp 3 _ (nd 3 (by decide)) rfl;have Rj:=show dG x _ _ _ from (hF.1 _ H3.out.lt N3.out).trans H3.out;exact bE rfl rfl (Rg.dR a.eval _ 33 (aH 3) rfl (by rw [e3]; exact wm Rj)) (hK _ _ rfl (still 3 (by decide)) fun _ _ _ _ _ _ _ h=>h)
  ·cases ho;have e5:a.eval (aH 5)=aK (X ⟨b5,0,Y⟩):=seen.kp 5 _ (nd 5 (by decide)) rfl;exact bE rfl rfl (Rg.dJ a.eval _ 43 (aH 5) 1 rfl (by rw [e5]; simp [go_sem])) (hK _ _ rfl (still 4 (by decide)) fun _ _ _ _ _ _ _ h=>h)
  ·cases ho;have e31:a.eval (aH 31)=aK (X ⟨b5,1,Y⟩):=seen.at_ ⟨4,.data⟩ (by simp) rfl (aO (by decide)) _ rfl;have ab6:=show dG x _ _ _ from (hF.1 _ H5.out.lt N5.out).trans H5.out;have y1:=ab6.cell 1;have y2:=ab6.cell 2;simp only [aT,aL,aP] at y1 y2;exact bE rfl rfl (Rg.dR a.eval _ 38 (aH 31) rfl (by rw [e31]; simp [go_sem,y1,y2])) (hK _ _ rfl (still 5 (by decide)) fun _ _ _ _ _ _ _ h=>h)
  ·cases ho;have e30:a.eval (aH 30)=bA #[V O me,J o1 n1 k1,J o2 n2 k2,J o3 n3 k3,J o4 n4 k4,J o5 n5 k5]:=seen.at_ ⟨3,.data⟩ (by simp) rfl (aO (by decide)) _ rfl;have e32:a.eval (aH 32)=lZ (c,d):=seen.at_ ⟨5,.data⟩ (by simp) rfl (aO (by decide)) _ rfl;have nS:¬ D 14:=fun h=>hnd (hc 11 _ (hc 14 _ h rfl ⟨11,.chain⟩ (by simp) rfl) rfl ⟨6,.chain⟩ (by simp) rfl);have hb:=hF.2.2.1 nS;have n13:¬ D 13:=fun h=>hnd (hc 11 _ (hc 12 _ (hc 13 _ h rfl ⟨12,.data⟩ (by simp) rfl) rfl ⟨11,.data⟩ (by simp) rfl) rfl ⟨6,.chain⟩ (by simp) rfl);exact Rg.gq rfl rfl (rE a.eval _ (aH 30) (aH 32) 33 38 36 rfl e30 e32 rfl _ (fK Tryz.func36 rfl rfl _ _)) (pF me _ _ _ _ (o2,n2,k2) ad (c,d) x (HD.out.on hb)) fun e w1 h=>by
    obtain⟨rfl,h3⟩:=h;refine⟨_,rfl,hK _ _ (by rw [FK.out]; rfl) ⟨fun j hj hne=>(h3.block j (bF hj hb.size)).trans (hF.1 j hj hne),fun B hB=>(hF.2.1 B hB).trans (h3.mono (aF (aF hB (bU H6.out.lt)) hb.size)),fun _=>hb.trans (h3.mono hb.size),fun h=>absurd (h.resolve_left (by decide)) nS,aF hb.size h3.size⟩ fun j u hj dj _ _ _ h=>?_⟩;rcases (by omega:j=0\/j=1\/j=2\/j=3\/j=4\/j=5\/j=6\/j=7\/j=8\/j=9\/j=10\/j=11\/j=12\/j=13\/j=14\/j=15) with rfl|rfl|rfl|rfl|rfl|rfl|rfl|rfl|rfl|rfl|rfl|rfl|rfl|rfl|rfl|rfl
    ·exact h
    ·exact h
    ·exact h
    ·exact h
    ·exact h
    ·exact h
    ·exact h
    ·exact h
    ·exact h
    ·exact h
    ·exact h
    ·exact h
    ·exact h
    ·exact absurd dj n13
    ·exact h
    ·exact absurd (hc 15 _ dj rfl ⟨13,.data⟩ (by simp) rfl) n13
  ·cases ho;have e29:a.eval (aH 29)=J o2 n2 k2:=seen.at_ ⟨2,.data⟩ (by simp) rfl (aO (by decide)) _ rfl;have e33:a.eval (aH 33)=V O (ki:Int):=seen.at_ ⟨6,.data⟩ (by simp) rfl (aO (by decide)) _ rfl;exact bE rfl rfl (Rg.nP a.eval _ 28 (aH 29) (aH 33) rfl (by rw [e29,e33]; exact IX.out x)) (hK _ _ rfl (still 7 (by decide)) fun _ _ _ _ _ _ _ h=>h)
  ·cases ho;have e34:a.eval (aH 34)=aK (X p):=seen.at_ ⟨7,.data⟩ (by simp) rfl (aO (by decide)) _ rfl;exact bE rfl rfl (Rg.dJ a.eval _ 53 (aH 34) 2 rfl (by rw [e34]; simp [go_sem])) (hK _ _ rfl (still 8 (by decide)) fun _ _ _ _ _ _ _ h=>h)
  ·cases ho;have e35:a.eval (aH 35)=aK (X ⟨p.block,p.off+3,Y⟩):=seen.at_ ⟨8,.data⟩ (by simp) rfl (aO (by decide)) _ rfl;have y:x.cell? ⟨p.block,p.off+3,Y⟩=X (V O gQ):=by
    have h:=PX.out;unfold World.cell? at h ⊢;rw [hF.1 _ PL.out PN.out];exact h
   exact bE rfl rfl (Rg.dR a.eval _ 3 (aH 35) rfl (by rw [e35]; simp [go_sem,y])) (hK _ _ rfl (still 9 (by decide)) fun _ _ _ _ _ _ _ h=>h)
  ·cases ho;have e8:a.eval (aH 8)=aK (X ⟨b8,0,Y⟩):=seen.kp 8 _ (nd 8 (by decide)) rfl;have aeA:=show dG x _ _ _ from (hF.1 _ H8.out.lt N8.out).trans H8.out;obtain⟨y0,y1,y2,y3,y4,y5,y6⟩:=aeA.mP;exact bE rfl rfl (Rg.dR a.eval _ 68 (aH 8) rfl (by rw [e8]; simp [go_sem,y0,y1,y2,y3,y4,y5,y6])) (hK _ _ rfl (still 10 (by decide)) fun _ _ _ _ _ _ _ h=>h)
  ·cases ho;have e37:a.eval (aH 37)=qX (c,d,c2,d2,(po,pn,pc),fr,up):=seen.at_ ⟨10,.data⟩ (by simp) rfl (aO (by decide)) _ rfl;have nS:¬ D 14:=fun h=>hnd (hc 14 _ h rfl ⟨11,.chain⟩ (by simp) rfl);have hb:=hF.2.2.1 nS;have n13:¬ D 13:=fun h=>hnd (hc 12 _ (hc 13 _ h rfl ⟨12,.data⟩ (by simp) rfl) rfl ⟨11,.data⟩ (by simp) rfl);exact Rg.gq rfl rfl (gY a.eval _ (aH 37) 68 58 rfl e37 rfl _ (fK Tryz.func58 rfl rfl _ _)) (xZ (c,d,c2,d2,(po,pn,pc),fr,up) x) fun e w1 h=>by
    obtain⟨rfl,h3⟩:=h;refine⟨_,rfl,hK _ _ rfl ⟨fun j hj hne=>(h3.block j (bF hj hb.size)).trans (hF.1 j hj hne),fun B hB=>(hF.2.1 B hB).trans (h3.mono (aF (aF hB (bU H6.out.lt)) hb.size)),fun _=>hb.trans (h3.mono hb.size),fun h=>absurd (h.resolve_left (by decide)) nS,aF hb.size h3.size⟩ fun j u hj dj _ _ _ h=>?_⟩;rcases (by omega:j=0\/j=1\/j=2\/j=3\/j=4\/j=5\/j=6\/j=7\/j=8\/j=9\/j=10\/j=11\/j=12\/j=13\/j=14\/j=15) with rfl|rfl|rfl|rfl|rfl|rfl|rfl|rfl|rfl|rfl|rfl|rfl|rfl|rfl|rfl|rfl
    ·exact h
    ·exact h
    ·exact h
    ·exact h
    ·exact h
    ·exact h
    ·exact h
    ·exact h
    ·exact h
    ·exact h
    ·exact h
    ·exact h
    ·exact h
    ·exact absurd dj n13
    ·exact h
    ·exact absurd (hc 15 _ dj rfl ⟨13,.data⟩ (by simp) rfl) n13
  ·cases ho;have e36:a.eval (aH 36)=V O gQ:=seen.at_ ⟨9,.data⟩ (by simp) rfl (aO (by decide)) _ rfl;have e38:a.eval (aH 38)=bA #[V O 3,V O c,V O d,V O c2,V O d2,J po pn pc,J Y 0 0]:=seen.at_ ⟨11,.data⟩ (by simp) rfl (aO (by decide)) _ rfl;exact bE rfl rfl (Rg.iM a.eval _ 58 #[(0,aH 36),(1,aH 38)] rfl (ps:=#[(0,V O gQ),(1,bA #[V O 3,V O c,V O d,V O c2,V O d2,J po pn pc,J Y 0 0])]) (by simp only [bT,bC,List.map_nil,e36,e38]) (by simp [go_sem])) (hK _ _ rfl (still 12 (by decide)) fun _ _ _ _ _ _ _ h=>h)
  ·cases ho;have e39:a.eval (aH 39)=yL (gQ,3,c,d,c2,d2,(po,pn,pc),(Y,0,0)):=seen.at_ ⟨12,.data⟩ (by simp) rfl (aO (by decide)) _ rfl;have n15:¬ D 15:=fun h=>hnd (hc 15 _ h rfl ⟨13,.data⟩ (by simp) rfl);have hl:=gH DI x [((gQ,3,c,d,c2,d2,(po,pn,pc),(Y,0,0)):nH)] 1 rfl (by simp) (jM (gQ,3,c,d,c2,d2,(po,pn,pc),(Y,0,0))).toArray (by simp [flat,EU]);have nb:=fT x (Z (jM (gQ,3,c,d,c2,d2,(po,pn,pc),(Y,0,0))).toArray 58);have sz:=hF.2.2.2.2;have ff:oF W b6 #[V O me,J o1 n1 k1,J o2 n2 k2,J o3 n3 k3,J o4 n4 k4,J o5 n5 k5] (fun j=>j=13\/D j) (x.alloc (Z (jM (gQ,3,c,d,c2,d2,(po,pn,pc),(Y,0,0))).toArray 58)):=⟨fun j hj hne=>(nb.block j (bF hj sz)).trans (hF.1 j hj hne),fun B hB=>(hF.2.1 B hB).trans (nb.mono (aF (aF hB (bU H6.out.lt)) sz)),fun h=>(hF.2.2.1 fun q=>h (aO q)).trans (nb.mono sz),fun h=>(hF.2.2.2.1 (h.resolve_left (by decide))).on nb,aF sz nb.size⟩;have st:∀ j u,j<16->D j->j≠13->oV W.heap.size (bA #[V O me,J o1 n1 k1,J o2 n2 k2,J o3 n3 k3,J o4 n4 k4,J o5 n5 k5]) c d c2 d2 (J o2 n2 k2) ki p gQ po pn pc fr up b3 b5 j u x->oV W.heap.size (bA #[V O me,J o1 n1 k1,J o2 n2 k2,J o3 n3 k3,J o4 n4 k4,J o5 n5 k5]) c d c2 d2 (J o2 n2 k2) ki p gQ po pn pc fr up b3 b5 j u (x.alloc (Z (jM (gQ,3,c,d,c2,d2,(po,pn,pc),(Y,0,0))).toArray 58)):=fun j u hj dj ni h=>by
    rcases (by omega:j=0\/j=1\/j=2\/j=3\/j=4\/j=5\/j=6\/j=7\/j=8\/j=9\/j=10\/j=11\/j=12\/j=13\/j=14\/j=15) with rfl|rfl|rfl|rfl|rfl|rfl|rfl|rfl|rfl|rfl|rfl|rfl|rfl|rfl|rfl|rfl
    ·exact h
    ·exact h
    ·exact h
    ·exact h
    ·exact h
    ·exact h
    ·exact h
    ·exact h
    ·exact h
    ·exact h
    ·exact h
    ·exact h
    ·exact h
    ·exact absurd rfl ni
    ·exact h
    ·exact absurd dj n15
   have q:=hK (J (X ⟨x.heap.size,0,Y⟩) 1 1) (x.alloc (Z (jM (gQ,3,c,d,c2,d2,(po,pn,pc),(Y,0,0))).toArray 58)) (dx hl sz) ff fun j u hj dj _ _ ni h=>st j u hj dj ni h;exact bE rfl rfl (Rg.iG a.eval _ 44 1 #[(0,aH 39)] rfl (ps:=#[(0,yL (gQ,3,c,d,c2,d2,(po,pn,pc),(Y,0,0)))]) (by simp [e39]) (by simp [go_sem])) q
  ·cases ho;have e27:a.eval (aH 27)=bA #[V O me,J o1 n1 k1,J o2 n2 k2,J o3 n3 k3,J o4 n4 k4,J o5 n5 k5]:=seen.at_ ⟨0,.data⟩ (by simp) rfl (aO (by decide)) _ rfl;have e6:a.eval (aH 6)=aK (X ⟨b6,0,Y⟩):=seen.kp 6 _ (nd 6 (by decide)) rfl;have hb:=hF.2.2.1 hnd;have H6x:=H6.out.on hb;have s4:=dB x b6 (V O me) (J o1 n1 k1) (J o2 n2 k2) (J o3 n3 k3) (J o4 n4 k4) (J o5 n5 k5);have hx:=dH H6x (V O me) (J o1 n1 k1) (J o2 n2 k2) (J o3 n3 k3) (J o4 n4 k4) (J o5 n5 k5);have hs:=sH H6x me o1 o2 o3 o4 o5 n1 k1 n2 k2 n3 k3 n4 k4 n5 k5;have hy:∀ B,B<=b6->Below B W (gM x b6 (V O me) (J o1 n1 k1) (J o2 n2 k2) (J o3 n3 k3) (J o4 n4 k4) (J o5 n5 k5)):=fun B hB=>dw (hF.2.1 B hB) hB _ _ _ _ _ _;have so:∀ v l,iQ x W.heap.size v l->iQ (gM x b6 (V O me) (J o1 n1 k1) (J o2 n2 k2) (J o3 n3 k3) (J o4 n4 k4) (J o5 n5 k5)) W.heap.size v l:=fun v l h=>fC h b6 H6.out.lt _ _ _ _ _ _;have sz:x.heap.size<=(gM x b6 (V O me) (J o1 n1 k1) (J o2 n2 k2) (J o3 n3 k3) (J o4 n4 k4) (J o5 n5 k5)).heap.size:=by simp [gM]
   generalize gM x b6 (V O me) (J o1 n1 k1) (J o2 n2 k2) (J o3 n3 k3) (J o4 n4 k4) (J o5 n5 k5)=x2 at *;have n15:¬ D 15:=fun h=>hnd (hc 15 _ h rfl ⟨14,.chain⟩ (by simp) rfl);have ff:oF W b6 #[V O me,J o1 n1 k1,J o2 n2 k2,J o3 n3 k3,J o4 n4 k4,J o5 n5 k5] (fun j=>j=14\/D j) x2:=⟨fun j hj hne=>(s4 j hne).trans (hF.1 j hj hne),hy,fun h=>absurd (cB rfl) h,fun _=>hx,aF hF.2.2.2.2 sz⟩;have st:∀ j u,j<16->D j->oV W.heap.size (bA #[V O me,J o1 n1 k1,J o2 n2 k2,J o3 n3 k3,J o4 n4 k4,J o5 n5 k5]) c d c2 d2 (J o2 n2 k2) ki p gQ po pn pc fr up b3 b5 j u x->oV W.heap.size (bA #[V O me,J o1 n1 k1,J o2 n2 k2,J o3 n3 k3,J o4 n4 k4,J o5 n5 k5]) c d c2 d2 (J o2 n2 k2) ki p gQ po pn pc fr up b3 b5 j u x2:=fun j u hj dj h=>by
    rcases (by omega:j=0\/j=1\/j=2\/j=3\/j=4\/j=5\/j=6\/j=7\/j=8\/j=9\/j=10\/j=11\/j=12\/j=13\/j=14\/j=15) with rfl|rfl|rfl|rfl|rfl|rfl|rfl|rfl|rfl|rfl|rfl|rfl|rfl|rfl|rfl|rfl
    ·exact h
    ·exact h
    ·exact h
    ·exact h
    ·exact h
    ·exact h
    ·exact h
    ·exact h
    ·exact h
    ·exact h
    ·exact h
    ·exact h
    ·exact h
    ·exact so _ _ h
    ·exact h
    ·exact absurd dj n15
   have q:=hK (aB aU) x2 trivial ff fun j u hj dj _ _ _ h=>st j u hj dj h;have q2:K a x2:=q;exact Rg.fI 33 (aH 6) (aH 27) rfl rfl rfl rfl e6 e27 hs q2
  ·cases ho;have o40:iQ x W.heap.size (a.eval (aH 40)) [(gQ,3,c,d,c2,d2,(po,pn,pc),(Y,0,0))]:=seen.at_ ⟨13,.data⟩ (by simp) rfl (aO (by decide)) _ rfl;exact bE rfl rfl (Rg.kM a.eval _ (aH 40) rfl x) (hK _ _ o40 (still 15 (by decide)) fun _ _ _ _ _ _ _ h=>h)
 ·intro a x df sz kp ⟨vs,hv⟩ ⟨D,hall,hF⟩;have h2:iQ x W.heap.size (vs 15) [(gQ,3,c,d,c2,d2,(po,pn,pc),(Y,0,0))]:=(hv 15 (by omega)).2 (by decide);have g9:a.tmps[7]?=X (vs 15):=(hv 15 (by omega)).1 7 rfl;obtain⟨sa,sc,hs⟩:=(aQ h2).len;rw [hs] at h2 g9;exact HQ.out a x (sa,_,sc) df ((kp 6 (nd 6 (by decide))).trans rfl) g9 (hF.2.2.2.1 (hall 14 (by omega))) h2 hF.1 hF.2.1
def dV (W F0:Nat) (bv rv:aY) (gQ c d c2 d2:Int) (lo:List nH) (i:Nat) (v:aY) (x:aN):Prop :=
 match i with
 | 0=>v=bv
 | 1=>v=rv
 | 2=>v=V O gQ
 | 3=>v=lZ (c,d)
 | 4=>v=lZ (c2,d2)
 | 5=>v=bA #[V O 4,V O c,V O d,V O c2,V O d2,J Y 0 0,J Y 0 0]
 | 6=>v=yL (gQ,4,c,d,c2,d2,(Y,0,0),(Y,0,0))
 | 7=>iQ x W v [(gQ,4,c,d,c2,d2,(Y,0,0),(Y,0,0))]
 | 8=>∃ sl:Sl,v=dK sl/\iQ x F0 v (lo++[(gQ,4,c,d,c2,d2,(Y,0,0),(Y,0,0))])
 | 10=>∃ sl:Sl,v=dK sl/\iQ x F0 v (lo++[(gQ,4,c,d,c2,d2,(Y,0,0),(Y,0,0))])
 | _=>True
def dF (W:aN) (F0 b4 b5 b6 b8:Nat) (bc:Array aY) (c d c2 d2:Int) (D:Nat->Prop) (x:aN):Prop :=
 (dG x b4 bc 33/\dG x b5 #[V O c,V O d] 38/\dG x b6 #[V O c2,V O d2] 38)/\(¬ D 8->Below W.heap.size W x)/\(¬ D 9->Below F0 W x)/\(D 9->dG x b8 bc 33/\(∀ j,j<F0->j≠b8->x.heap[j]?=W.heap[j]?)/\∀ B,B<=b8->Below B W x)
noncomputable def KP:Code:=((Tryz.f59.body.bind (eu 11)).getD .skip)
theorem Rk (Q:Exit->Act->aN->Prop) (W:aN) (F0 b4 b5 b6 b8:Nat) (me gQ c d c2 d2:Int) (o1 o2 o3 o4 o5:Option Addr) (n1 k1 n2 k2 n3 k3 n4 k4 n5 k5:Nat) (rv:aY) (lo:List nH) (z0 z1 z2 z3 z4 z5:aY) (u0 u1 u2 u3 u7 u9 u10 u11 u14 u15 u16 u17 u18 u19 u20 u21 u22 u23 u24 u25 u26 u27 u28 u29 u30 u31 u32 u33 u34 u35 u36 u37 u38 u39 u40 u41 u42 u43 u44 u45 u46 u47 u48 u49 u50 u51 u52 u53 u54 u55 u56 u57 u58:aY)
  (h4:dG W b4 #[V O me,J o1 n1 k1,J o2 n2 k2,J o3 n3 k3,J o4 n4 k4,J o5 n5 k5] 33) (h5:dG W b5 #[V O c,V O d] 38) (h6:dG W b6 #[V O c2,V O d2] 38) (h8:dG W b8 #[z0,z1,z2,z3,z4,z5] 33) (l4:b4<F0) (l5:b5<F0) (l6:b6<F0) (l8:b8<F0) (n4_:b4≠b8) (n5_:b5≠b8) (n6_:b6≠b8) (fw:F0<=W.heap.size) (hown:iQ W F0 rv lo) (hlen:lo.length<=1000)
  (hQ:∀ (a:Act) (x:aN) (sl:Sl),a.defers=[]->a.tmps[8]?=X (aK (X ⟨b8,0,Y⟩))->a.tmps[9]?=X (dK sl)->dG x b8 #[V O me,J o1 n1 k1,J o2 n2 k2,J o3 n3 k3,J o4 n4 k4,J o5 n5 k5] 33->iQ x F0 (dK sl) (lo++[(gQ,4,c,d,c2,d2,(Y,0,0),(Y,0,0))])->(∀ k,k<F0->k≠b8->x.heap[k]?=W.heap[k]?)->(∀ B,B<=b8->Below B W x)->Q .normal a x) :
  Code.wp aj KP Q ⟨(u0::u1::u2::u3::aK (X ⟨b4,0,Y⟩)::aK (X ⟨b5,0,Y⟩)::aK (X ⟨b6,0,Y⟩)::u7::aK (X ⟨b8,0,Y⟩)::u9::u10::u11::V O gQ::rv::u14::u15::u16::u17::u18::u19::u20::u21::u22::u23::u24::u25::u26::u27::u28::u29::u30::u31::u32::u33::u34::u35::u36::u37::u38::u39::u40::u41::u42::u43::u44::u45::u46::u47::u48::u49::u50::u51::u52::u53::u54::u55::u56::u57::u58::[]).toArray,[]⟩ W:=by
 have HQ:=L hQ;have H4:=L h4;have H5:=L h5;have H6:=L h6;have H8:=L h8;have L4:=L l4;have L5:=L l5;have L6:=L l6;have L8:=L l8;have N4:=L n4_;have N5:=L n5_;have N6:=L n6_;have FW:=L fw;have HO:=L hown;have HL:=L hlen;clear hQ h4 h5 h6 h8 l4 l5 l6 l8 n4_ n5_ n6_ fw hown hlen;unfold KP
 conv=>arg 2; whnf
 have nd:∀ j,(∀ i,i<11->[X 50,X 51,X 52,X 53,X 54,X 55,X 56,X 57,X 58,Y,X 9].getD i Y≠X j)->∀ i,i<11->(fun i=>[X 50,X 51,X 52,X 53,X 54,X 55,X 56,X 57,X 58,Y,X 9].getD i Y) i≠X j:=fun j h=>h;refine Rg.wY 11 (fun i=>[X 50,X 51,X 52,X 53,X 54,X 55,X 56,X 57,X 58,Y,X 9].getD i Y) (fun i=>if i=7 then 8 else 11) (dV W.heap.size F0 (bA #[V O me,J o1 n1 k1,J o2 n2 k2,J o3 n3 k3,J o4 n4 k4,J o5 n5 k5]) rv gQ c d c2 d2 lo) (dF W F0 b4 b5 b6 b8 #[V O me,J o1 n1 k1,J o2 n2 k2,J o3 n3 k3,J o4 n4 k4,J o5 n5 k5] c d c2 d2) (by kernel_rfl) (by kernel_rfl) rfl (fun i j e hi hj h1 h2=>(by decide:∀ i,i<11->∀ j,j<11->([X 50,X 51,X 52,X 53,X 54,X 55,X 56,X 57,X 58,Y,X 9].getD i Y).isSome=aU->[X 50,X 51,X 52,X 53,X 54,X 55,X 56,X 57,X 58,Y,X 9].getD i Y=[X 50,X 51,X 52,X 53,X 54,X 55,X 56,X 57,X 58,Y,X 9].getD j Y->i=j) i hi j hj (by have h1:[X 50,X 51,X 52,X 53,X 54,X 55,X 56,X 57,X 58,Y,X 9].getD i Y=X e:=h1; rw [h1]; rfl) (h1.trans h2.symm)) (fun i e hi h=>(by decide:∀ i,i<11->∀ q∈[X 50,X 51,X 52,X 53,X 54,X 55,X 56,X 57,X 58,Y,X 9].getD i Y,q<59) i hi e h) ⟨⟨H4.out,H5.out,H6.out⟩,fun _=>(ah _ _).drew,fun _=>(ah _ _).drew,False.elim⟩ ?_ ?_
 ·intro i o hi ho a x D hnd hc hD hF seen K hK;clear HQ;have still:∀ i,i≠8->i≠9->dF W F0 b4 b5 b6 b8 #[V O me,J o1 n1 k1,J o2 n2 k2,J o3 n3 k3,J o4 n4 k4,J o5 n5 k5] c d c2 d2 (fun j=>j=i\/D j) x:=fun i h8 h9=>⟨hF.1,fun h=>hF.2.1 fun h2=>h (aO h2),fun h=>hF.2.2.1 fun h2=>h (aO h2),fun h=>hF.2.2.2 (h.resolve_left (Ne.symm h9))⟩;rcases (by omega:i=0\/i=1\/i=2\/i=3\/i=4\/i=5\/i=6\/i=7\/i=8\/i=9\/i=10) with rfl|rfl|rfl|rfl|rfl|rfl|rfl|rfl|rfl|rfl|rfl
  ·cases ho;have e4:a.eval (aH 4)=aK (X ⟨b4,0,Y⟩):=seen.kp 4 _ (nd 4 (by decide)) rfl;exact bE rfl rfl (Rg.dR a.eval _ 33 (aH 4) rfl (by rw [e4]; exact wm hF.1.1)) (hK _ _ rfl (still 0 (by decide) (by decide)) fun _ _ _ _ _ _ _ h=>h)
  ·cases ho;have e13:a.eval (aH 13)=rv:=seen.kp 13 _ (nd 13 (by decide)) rfl;exact bE rfl rfl (Rg.fJ a.eval _ (aH 13) rfl x) (hK _ _ e13 (still 1 (by decide) (by decide)) fun _ _ _ _ _ _ _ h=>h)
  ·cases ho;have e12:a.eval (aH 12)=V O gQ:=seen.kp 12 _ (nd 12 (by decide)) rfl;exact bE rfl rfl (Rg.fJ a.eval _ (aH 12) rfl x) (hK _ _ e12 (still 2 (by decide) (by decide)) fun _ _ _ _ _ _ _ h=>h)
  ·cases ho;have e5:a.eval (aH 5)=aK (X ⟨b5,0,Y⟩):=seen.kp 5 _ (nd 5 (by decide)) rfl;exact bE rfl rfl (Rg.dR a.eval _ 38 (aH 5) rfl (by rw [e5]; exact Bp x _ (c,d) (Kr hF.1.2.1))) (hK _ _ rfl (still 3 (by decide) (by decide)) fun _ _ _ _ _ _ _ h=>h)
  ·cases ho;have e6:a.eval (aH 6)=aK (X ⟨b6,0,Y⟩):=seen.kp 6 _ (nd 6 (by decide)) rfl;exact bE rfl rfl (Rg.dR a.eval _ 38 (aH 6) rfl (by rw [e6]; exact Bp x _ (c2,d2) (Kr hF.1.2.2))) (hK _ _ rfl (still 4 (by decide) (by decide)) fun _ _ _ _ _ _ _ h=>h)
  ·cases ho;have e53:a.eval (aH 53)=lZ (c,d):=seen.at_ ⟨3,.data⟩ (by simp) rfl (aO (by decide)) _ rfl;have e54:a.eval (aH 54)=lZ (c2,d2):=seen.at_ ⟨4,.data⟩ (by simp) rfl (aO (by decide)) _ rfl;exact bE rfl rfl (Rg.iM a.eval _ 43 #[(0,.const (V O 4)),(1,aH 53),(2,aH 54)] rfl (ps:=#[(0,V O 4),(1,lZ (c,d)),(2,lZ (c2,d2))]) (by simp only [bT,bC,List.map_nil,e53,e54]; rfl) (by simp [go_sem])) (hK _ _ rfl (still 5 (by decide) (by decide)) fun _ _ _ _ _ _ _ h=>h)
  ·cases ho;have e52:a.eval (aH 52)=V O gQ:=seen.at_ ⟨2,.data⟩ (by simp) rfl (aO (by decide)) _ rfl;have e55:a.eval (aH 55)=bA #[V O 4,V O c,V O d,V O c2,V O d2,J Y 0 0,J Y 0 0]:=seen.at_ ⟨5,.data⟩ (by simp) rfl (aO (by decide)) _ rfl;exact bE rfl rfl (Rg.iM a.eval _ 58 #[(0,aH 52),(1,aH 55)] rfl (ps:=#[(0,V O gQ),(1,bA #[V O 4,V O c,V O d,V O c2,V O d2,J Y 0 0,J Y 0 0])]) (by simp only [bT,bC,List.map_nil,e52,e55]) (by simp [go_sem])) (hK _ _ rfl (still 6 (by decide) (by decide)) fun _ _ _ _ _ _ _ h=>h)
  ·cases ho;have e56:a.eval (aH 56)=yL (gQ,4,c,d,c2,d2,(Y,0,0),(Y,0,0)):=seen.at_ ⟨6,.data⟩ (by simp) rfl (aO (by decide)) _ rfl;have n8:¬ D 8:=fun h=>hnd (hc 8 _ h rfl ⟨7,.data⟩ (by simp) rfl);have n9:¬ D 9:=fun h=>n8 (hc 9 _ h rfl ⟨8,.chain⟩ (by simp) rfl);have hb:=hF.2.1 n8;have hl:=gH DI x [((gQ,4,c,d,c2,d2,(Y,0,0),(Y,0,0)):nH)] 1 rfl (by simp) (jM (gQ,4,c,d,c2,d2,(Y,0,0),(Y,0,0))).toArray (by simp [flat,EU]);have nb:=fT x (Z (jM (gQ,4,c,d,c2,d2,(Y,0,0),(Y,0,0))).toArray 58);exact bE rfl rfl (Rg.iG a.eval _ 44 1 #[(0,aH 56)] rfl (ps:=#[(0,yL (gQ,4,c,d,c2,d2,(Y,0,0),(Y,0,0)))]) (by simp [e56]) (by simp [go_sem])) (hK (J (X ⟨x.heap.size,0,Y⟩) 1 1) (x.alloc (Z (jM (gQ,4,c,d,c2,d2,(Y,0,0),(Y,0,0))).toArray 58)) (dx hl hb.size) ⟨⟨hF.1.1.on nb,hF.1.2.1.on nb,hF.1.2.2.on nb⟩,fun _=>hb.trans (nb.mono hb.size),fun _=>(hb.trans (nb.mono hb.size)).mono FW.out,fun h=>absurd (h.resolve_left (by decide)) n9⟩ fun j u hj dj nl nx ni h=>by
    rcases (by omega:j=0\/j=1\/j=2\/j=3\/j=4\/j=5\/j=6\/j=7\/j=8\/j=9\/j=10) with rfl|rfl|rfl|rfl|rfl|rfl|rfl|rfl|rfl|rfl|rfl
    ·exact h
    ·exact h
    ·exact h
    ·exact h
    ·exact h
    ·exact h
    ·exact h
    ·exact absurd rfl ni
    ·exact absurd dj n8
    ·exact h
    ·exact absurd (hc 10 _ dj rfl ⟨8,.data⟩ (by simp) rfl) n8)
  ·cases ho;have e51:a.eval (aH 51)=rv:=seen.at_ ⟨1,.data⟩ (by simp) rfl (aO (by decide)) _ rfl;have o57:iQ x W.heap.size (a.eval (aH 57)) [(gQ,4,c,d,c2,d2,(Y,0,0),(Y,0,0))]:=seen.at_ ⟨7,.data⟩ (by simp) rfl (cB rfl) _ rfl;have hb:=hF.2.1 hnd;have n9:¬ D 9:=fun h=>hnd (hc 9 _ h rfl ⟨8,.chain⟩ (by simp) rfl);have n10:¬ D 10:=fun h=>hnd (hc 10 _ h rfl ⟨8,.data⟩ (by simp) rfl);obtain⟨v',x',r,o',gr⟩:=fO DI F0 (Bk.dh HO.out hb) (aQ o57) HL.out (by simp) (aF FW.out hb.size) 44;obtain⟨sa,sc,hsv⟩:=(aQ o').len;have hb2:Below F0 W x':=(hb.mono FW.out).grown gr (aF FW.out hb.size) fun j hj=>((Bk.dh HO.out hb).lt j hj).1;have vv:dV W.heap.size F0 (bA #[V O me,J o1 n1 k1,J o2 n2 k2,J o3 n3 k3,J o4 n4 k4,J o5 n5 k5]) rv gQ c d c2 d2 lo 8 v' x':=⟨(sa,(lo++[(gQ,4,c,d,c2,d2,(Y,0,0),(Y,0,0))]).length,sc),hsv,o'⟩;have ff:dF W F0 b4 b5 b6 b8 #[V O me,J o1 n1 k1,J o2 n2 k2,J o3 n3 k3,J o4 n4 k4,J o5 n5 k5] c d c2 d2 (fun j=>j=8\/D j) x':=⟨⟨uS H4.out hb2 L4.out,uS H5.out hb2 L5.out,uS H6.out hb2 L6.out⟩,fun h=>absurd (cB rfl) h,fun _=>hb2,fun h=>absurd (h.resolve_left (by decide)) n9⟩;have st:∀ j u,j<11->D j->(fun i=>if i=7 then 8 else 11) j≠8->j≠8->dV W.heap.size F0 (bA #[V O me,J o1 n1 k1,J o2 n2 k2,J o3 n3 k3,J o4 n4 k4,J o5 n5 k5]) rv gQ c d c2 d2 lo j u x->dV W.heap.size F0 (bA #[V O me,J o1 n1 k1,J o2 n2 k2,J o3 n3 k3,J o4 n4 k4,J o5 n5 k5]) rv gQ c d c2 d2 lo j u x':=fun j u hj dj nx ni h=>by
    rcases (by omega:j=0\/j=1\/j=2\/j=3\/j=4\/j=5\/j=6\/j=7\/j=8\/j=9\/j=10) with rfl|rfl|rfl|rfl|rfl|rfl|rfl|rfl|rfl|rfl|rfl
    ·exact h
    ·exact h
    ·exact h
    ·exact h
    ·exact h
    ·exact h
    ·exact h
    ·exact absurd rfl nx
    ·exact absurd rfl ni
    ·exact h
    ·exact absurd dj n10
   have q:=hK v' x' vv ff fun j u hj dj _ nx ni h=>st j u hj dj nx ni h;exact bE rfl rfl (Rg.fM a.eval _ (aH 51) (aH 57) 44 rfl e51 rfl r) q
  ·cases ho;have e50:a.eval (aH 50)=bA #[V O me,J o1 n1 k1,J o2 n2 k2,J o3 n3 k3,J o4 n4 k4,J o5 n5 k5]:=seen.at_ ⟨0,.data⟩ (by simp) rfl (aO (by decide)) _ rfl;have e8:a.eval (aH 8)=aK (X ⟨b8,0,Y⟩):=seen.kp 8 _ (nd 8 (by decide)) rfl;obtain⟨sl,h58,o58⟩:∃ sl:Sl,a.eval (aH 58)=dK sl/\iQ x F0 (a.eval (aH 58)) (lo++[(gQ,4,c,d,c2,d2,(Y,0,0),(Y,0,0))]):=seen.at_ ⟨8,.chain⟩ (by simp) rfl (aO (by decide)) _ rfl;have hb:=hF.2.2.1 hnd;have H8x:=uS H8.out hb L8.out;have s4:=dB x b8 (V O me) (J o1 n1 k1) (J o2 n2 k2) (J o3 n3 k3) (J o4 n4 k4) (J o5 n5 k5);have d8:D 8:=hD ⟨8,.chain⟩ (by simp) rfl;have n10:¬ D 10:=fun h=>hnd (hc 10 _ h rfl ⟨9,.chain⟩ (by simp) rfl);have hx:=dH H8x (V O me) (J o1 n1 k1) (J o2 n2 k2) (J o3 n3 k3) (J o4 n4 k4) (J o5 n5 k5);have hy:∀ B,B<=b8->Below B W (gM x b8 (V O me) (J o1 n1 k1) (J o2 n2 k2) (J o3 n3 k3) (J o4 n4 k4) (J o5 n5 k5)):=fun B hB=>dw (hb.mono (bU (Nat.lt_of_le_of_lt hB L8.out))) hB _ _ _ _ _ _;have hs:=sH H8x me o1 o2 o3 o4 o5 n1 k1 n2 k2 n3 k3 n4 k4 n5 k5;have so:∀ v l,iQ x F0 v l->iQ (gM x b8 (V O me) (J o1 n1 k1) (J o2 n2 k2) (J o3 n3 k3) (J o4 n4 k4) (J o5 n5 k5)) F0 v l:=fun v l h=>fC h b8 L8.out _ _ _ _ _ _;generalize gM x b8 (V O me) (J o1 n1 k1) (J o2 n2 k2) (J o3 n3 k3) (J o4 n4 k4) (J o5 n5 k5)=x2 at *;have ff:dF W F0 b4 b5 b6 b8 #[V O me,J o1 n1 k1,J o2 n2 k2,J o3 n3 k3,J o4 n4 k4,J o5 n5 k5] c d c2 d2 (fun j=>j=9\/D j) x2:=⟨⟨(s4 b4 N4.out).trans hF.1.1,(s4 b5 N5.out).trans hF.1.2.1,(s4 b6 N6.out).trans hF.1.2.2⟩,fun h=>absurd (aO d8) h,fun h=>absurd (cB rfl) h,fun _=>⟨hx,fun j hj hne=>(s4 j hne).trans (hb.block j hj),hy⟩⟩;have st:∀ j u,j<11->D j->¬ D ((fun i=>if i=7 then 8 else 11) j)->j≠9->dV W.heap.size F0 (bA #[V O me,J o1 n1 k1,J o2 n2 k2,J o3 n3 k3,J o4 n4 k4,J o5 n5 k5]) rv gQ c d c2 d2 lo j u x->dV W.heap.size F0 (bA #[V O me,J o1 n1 k1,J o2 n2 k2,J o3 n3 k3,J o4 n4 k4,J o5 n5 k5]) rv gQ c d c2 d2 lo j u x2:=fun j u hj dj nl ni h=>by
    rcases (by omega:j=0\/j=1\/j=2\/j=3\/j=4\/j=5\/j=6\/j=7\/j=8\/j=9\/j=10) with rfl|rfl|rfl|rfl|rfl|rfl|rfl|rfl|rfl|rfl|rfl
    ·exact h
    ·exact h
    ·exact h
    ·exact h
    ·exact h
    ·exact h
    ·exact h
    ·exact absurd d8 nl
    ·obtain⟨s,h1,h2⟩:=h;exact⟨s,h1,so _ _ h2⟩
    ·exact h
    ·exact absurd dj n10
   have q:=hK (aB aU) x2 trivial ff fun j u hj dj nl _ ni h=>st j u hj dj nl ni h;have q2:K a x2:=q;exact Rg.fI 33 (aH 8) (aH 50) rfl rfl rfl rfl e8 e50 hs q2
  ·cases ho;obtain⟨sl,h58,o58⟩:∃ sl:Sl,a.eval (aH 58)=dK sl/\iQ x F0 (a.eval (aH 58)) (lo++[(gQ,4,c,d,c2,d2,(Y,0,0),(Y,0,0))]):=seen.at_ ⟨8,.data⟩ (by simp) rfl (aO (by decide)) _ rfl;exact bE rfl rfl (Rg.kM a.eval _ (aH 58) rfl x) (hK _ _ ⟨sl,h58,o58⟩ (still 10 (by decide) (by decide)) fun _ _ _ _ _ _ _ h=>h)
 ·intro a x df sz kp ⟨vs,hv⟩ ⟨D,hall,hF⟩;obtain⟨sl,h1,h2⟩:=(hv 10 (by omega)).2 (by decide);have g9:a.tmps[9]?=X (dK sl):=by
   rw [<- h1];exact (hv 10 (by omega)).1 9 rfl
  obtain⟨e1,e2,e3⟩:=hF.2.2.2 (hall 9 (by omega));rw [h1] at h2;exact HQ.out a x sl df ((kp 8 (nd 8 (by decide))).trans rfl) g9 e1 h2 e2 e3
theorem Cx {W W':aN} {k:Nat} {me:Int} {s1 s2 s3 s4 s5:Sl} {v:aY} {l:List iB} {m:List En} (h1:jX W v l) (h2:dX (iX W) l m) (hb:dG W k (iY me s1 s2 s3 s4 s5) 33) (hk:∀ j,j<W.heap.size->j≠k->W'.heap[j]?=W.heap[j]?):jX W' v l/\dX (iX W') l m :=
 ⟨gK nR h1 hk (jT hb (fun _=>⟨_,_,rfl,rfl⟩) (kY me s1 s2 s3 s4 s5)),h2.mono fun _ _ hx=>⟨hx.1,hx.2.1,hx.2.2.1,hx.2.2.2.1,gK Bh hx.2.2.2.2 hk (nk hb (nu me s1 s2 s3 s4 s5))⟩⟩
theorem iN {W W':aN} {k:Nat} {me:Int} {s1 s2 s3 s4 s5:Sl} {s:Sl} {m:List Ou} (h:kK W s m) (hb:dG W k (iY me s1 s2 s3 s4 s5) 33) (hk:∀ j,j<W.heap.size->j≠k->W'.heap[j]?=W.heap[j]?):kK W' s m:=by
 obtain⟨xs,h1,h2⟩:=h;exact⟨xs,gK DI h1 hk (jT hb (fun c=>⟨_,_,rfl,rfl⟩) (kY me s1 s2 s3 s4 s5)),h2.mono fun x a hx=>⟨hx.1,hx.2.1,hx.2.2.1,hx.2.2.2.1,gK Bh hx.2.2.2.2.1 hk (nk hb (nu me s1 s2 s3 s4 s5)),hx.2.2.2.2.2⟩⟩
theorem iR (b:Br) (t x:Id) (f:Int):(jJ b t x f).1=(takeB b t x f).1:=by
 unfold jJ
 split
 ·rfl
 ·split <;> rfl
theorem VQ {W:aN} {l:List iB} {m:List En} (t:Int) (h:dX (iX W) l m):dX (rQ W) (l.map (Jv t)) (m.map (AX t)):=by
 induction h with
 | nil=>exact .nil
 | cons x _ ih=>exact .cons (aaf x t) ih
theorem Cy (b:Br) (nv av sv ev ov:Sl) (x s:Id) (f:Int) (w:aN) (h:gZ w b nv av sv ev ov) (l2:b.dL.length<=900) (l3:b.ent.length<=900) (hok:∀ e∈b.ent,dM e.p) (hkn:∀ e∈b.ent,e.tree∈b.dL.map Ad.id) :
  Calls aj 59 #[nG b.me nv av sv ev ov,lZ x,lZ s,V O f] w fun e w'=>(∃ ev' lo:Sl,e=bG (.tuple #[nG b.me nv av sv ev' ov,dK lo])/\gZ w' (jJ b x s f).1 nv av sv ev' ov/\kK w' lo (jJ b x s f).2)/\Below w.heap.size w w':=by
 obtain⟨no,nn,nc⟩:=nv;obtain⟨ao,an,ac⟩:=av;obtain⟨so,sn,sc⟩:=sv;obtain⟨eo,en,ec⟩:=ev;obtain⟨oo,dN,oc⟩:=ov;obtain⟨c,d⟩:=x;obtain⟨c2,d2⟩:=s;have TK:=L (fun W hb'=>Nu b (no,nn,nc) (ao,an,ac) (so,sn,sc) (eo,en,ec) (oo,dN,oc) (c,d) (c2,d2) f W (h.on (show Below w.heap.size w W from hb')) l3 hok);have vL:=L h.near;have L2:=L l2;have L3:=L l3;have KN:=L hkn;obtain⟨h0,h1,h2,h3,h4⟩:=Gr w #[V O b.me,J no nn nc,J ao an ac,J so sn sc,J eo en ec,J oo dN oc] #[V O c,V O d] #[V O c2,V O d2] #[V O 0,J Y 0 0,J Y 0 0,J Y 0 0,J Y 0 0,J Y 0 0] 33 38 38 33;obtain⟨me,hme⟩:∃ me,me=b.me:=⟨_,rfl⟩;simp only [<- hme] at h0 h1 h2 h3 h4 TK ⊢;have gB:=L (h0);have wI:=L (h1);have kJ:=L (h2);have kZ:=L (h3);have AU:=L (h4);clear h0 h1 h2 h3 h4 h l2 l3 hme hok hkn;go_enter Tryz.func59,Tryz.ntmps59;go_upto_region 1 with fail;generalize ((((w.alloc (Z #[V O me,J no nn nc,J ao an ac,J so sn sc,J eo en ec,J oo dN oc] 33)).alloc (Z #[V O c,V O d] 38)).alloc (Z #[V O c2,V O d2] 38)).alloc (Z #[V O 0,J Y 0 0,J Y 0 0,J Y 0 0,J Y 0 0,J Y 0 0] 33))=W at *;have SW:=L (TK.out W gB.out);clear TK;obtain⟨x0,x1,x2,x3,x4,x5⟩:=wI.out.eZ;obtain⟨y0,y1⟩:=kJ.out.cs2;obtain⟨z0,z1⟩:=kZ.out.cs2;go_wp2_with fail;refine SW.out.mono ?_;rintro e1 w1 ⟨⟨⟨ea,gT,gU⟩,⟨la,ln,lc⟩,rfl,hbr,xs,hrow,hall⟩,hb⟩;clear SW;clear x0 x1 x2 x3 x4 x5 y0 y1 z0 z1;obtain⟨fb,Jy⟩:∃ r,(takeB b (c,d) (c2,d2) f).2.2=r:=⟨_,rfl⟩;have LB:=L Jy;rw [Jy];obtain⟨qa,qc,hq⟩:=hrow.len;obtain rfl:ln=xs.length:=by simpa using congrArg (fun v=>match v with|Value.slice _ n _=>n|_=>0) hq
 obtain⟨ln,hln⟩:∃ n,n=xs.length:=⟨_,rfl⟩;simp only [<- hln] at hrow ⊢;have LN:=L hln.symm;clear hln hq;have iO:=L (gB.out.trans (hb.mono gB.out.size));have ny:=L (wI.out.on hb);have Rm:=L (kJ.out.on hb);have Ea:=L (kZ.out.on hb);have Ny:=L (AU.out.on hb);clear gB wI kJ kZ AU;obtain⟨k0,k1,k2,k3,k4,k5⟩:=ny.out.eZ;obtain⟨pK,pO,pQ,pR,pU,pV⟩:=ny.out.kg;have zz:=ny.out.lt;have FB:=L (dH ny.out (V O me) (J no nn nc) (J ao an ac) (J so sn sc) (J ea gT gU) (J oo dN oc));have B2:=L (dw (b:=w.heap.size) iO.out (aI _) (V O me) (J no nn nc) (J ao an ac) (J so sn sc) (J ea gT gU) (J oo dN oc));have F5:=L (show dG _ _ _ _ from (dB w1 w.heap.size (V O me) (J no nn nc) (J ao an ac) (J so sn sc) (J ea gT gU) (J oo dN oc) (w.heap.size+1) (by omega)).trans Rm.out);have F6:=L (show dG _ _ _ _ from (dB w1 w.heap.size (V O me) (J no nn nc) (J ao an ac) (J so sn sc) (J ea gT gU) (J oo dN oc) (w.heap.size+1+1) (by omega)).trans Ea.out);have F8:=L (show dG _ _ _ _ from (dB w1 w.heap.size (V O me) (J no nn nc) (J ao an ac) (J so sn sc) (J ea gT gU) (J oo dN oc) (w.heap.size+1+1+1) (by omega)).trans Ny.out);have HB:=L (eT (s1:=(no,nn,nc)) (s2:=(ao,an,ac)) (s3:=(so,sn,sc)) (s4:=(eo,en,ec)) (s5:=(oo,dN,oc)) hbr ny.out (fun j _ hj=>dB w1 w.heap.size (V O me) (J no nn nc) (J ao an ac) (J so sn sc) (J ea gT gU) (J oo dN oc) j hj) (by rw [(jl b (c,d) (c2,d2) f).2.1]; exact vL.out.on B2.out));have HX:=L (Cx (s1:=(no,nn,nc)) (s2:=(ao,an,ac)) (s3:=(so,sn,sc)) (s4:=(eo,en,ec)) (s5:=(oo,dN,oc)) hrow hall ny.out (fun j _ hj=>dB w1 w.heap.size (V O me) (J no nn nc) (J ao an ac) (J so sn sc) (J ea gT gU) (J oo dN oc) j hj));clear Jy hbr hb hrow hall iO ny Rm Ea Ny;go_upto_region 2 with fail;clear zz k0 k1 k2 k3 k4 k5 pK pO pQ pR pU pV;unfold gM at FB B2 F5 F6 F8 HB HX;generalize ((((((w1.setCell ⟨w.heap.size,0,Y⟩ (V O me)).setCell ⟨w.heap.size,1,Y⟩ (J no nn nc)).setCell ⟨w.heap.size,2,Y⟩ (J ao an ac)).setCell ⟨w.heap.size,3,Y⟩ (J so sn sc)).setCell ⟨w.heap.size,4,Y⟩ (J ea gT gU)).setCell ⟨w.heap.size,5,Y⟩ (J oo dN oc))=w2 at *;have lg:=L (B2.out);have uh:=L (FB.out);have VT:=L (F5.out);have Gv:=L (F6.out);have zf:=L (F8.out);clear B2 FB F5 F6 F8;cases fb
 ·have x0:=uh.out.cell 0;have x1:=uh.out.cell 1;have x2:=uh.out.cell 2;have x3:=uh.out.cell 3;have x4:=uh.out.cell 4;have x5:=uh.out.cell 5;simp only [aT,aL,aP] at x0 x1 x2 x3 x4 x5;obtain⟨r0,r1,r2,r3,r4,r5⟩:=zf.out.eZ;obtain⟨Cm,Co,Cq,Cr,Ct,Cu⟩:=zf.out.kg;have zz:=zf.out.lt;have GG:=L (dH zf.out (V O me) (J no nn nc) (J ao an ac) (J so sn sc) (J ea gT gU) (J oo dN oc));have BL:=L (dw (b:=w.heap.size+1+1+1) lg.out (by omega) (V O me) (J no nn nc) (J ao an ac) (J so sn sc) (J ea gT gU) (J oo dN oc));have HC:=L (eT (s1:=(Y,0,0)) (s2:=(Y,0,0)) (s3:=(Y,0,0)) (s4:=(Y,0,0)) (s5:=(Y,0,0)) HB.out zf.out (fun j _ hj=>dB w2 (w.heap.size+1+1+1) (V O me) (J no nn nc) (J ao an ac) (J so sn sc) (J ea gT gU) (J oo dN oc) j hj) (by rw [(jl b (c,d) (c2,d2) f).2.1]; exact vL.out.on BL.out));clear HB HX;go_wp2_with fail;obtain⟨v0,v1,v2,v3,v4,v5⟩:=GG.out.eZ;refine aM (v:=.tuple #[bA #[V O me,J no nn nc,J ao an ac,J so sn sc,J ea gT gU,J oo dN oc],J Y 0 0]) (by simp [results,Tryz.results59,go_sem,v0,v1,v2,v3,v4,v5]) rfl ?_;have hd:jJ b (c,d) (c2,d2) f=((takeB b (c,d) (c2,d2) f).1,[]):=by unfold jJ; rw [if_pos LB.out]
  rw [hd];exact⟨⟨(ea,gT,gU),(Y,0,0),rfl,HC.out,pJ _⟩,BL.out⟩
 ·obtain⟨e0,he0,ht0⟩:=Jw LB.out;have hmem:(c,d)∈b.dL.map Ad.id:=ht0 ▸ KN.out e0 he0;obtain⟨k,hk1,hk2⟩:=Ck _ _ hmem;rw [aR] at hk2;obtain⟨a,hak⟩:∃ a,b.dL[k]?=X a:=by
   cases h:b.dL[k]? with
   | none=>rw [h] at hk2; cases hk2
   | some a=>exact⟨a,rfl⟩
  have DB:=L (show jJ b (c,d) (c2,d2) f=((takeB b (c,d) (c2,d2) f).1,(takeB b (c,d) (c2,d2) f).2.1.map (AX a.par)++[⟨a.par,4,(c,d),(c2,d2),[]⟩]) from by
   unfold jJ;rw [if_neg (by rw [LB.out]; simp),hk1,bI,hak])
  clear hk2 hmem he0 ht0 e0;obtain⟨ad,xK,uT⟩:=HB.out.dL;rw [(jl b (c,d) (c2,d2) f).1] at uT;obtain⟨z,hz1,hz2⟩:=uT.at k a hak;have FD:=pF me (J no nn nc) (J ea gT gU) (J so sn sc) (J oo dN oc) (ao,an,ac) ad (c,d);rw [yH uT,hk1] at FD;obtain⟨q1,q2,hq⟩:=xK.len;obtain⟨rfl,rfl,rfl⟩:ao=q1/\an=ad.length/\ac=q2:=by
   have:J ao an ac=J q1 ad.length q2:=hq;simpa using this
  obtain⟨p,ix,px⟩:=PI xK rfl rfl hz1;obtain⟨p0,p1,p2,p3⟩:=px w2 (ah _ _);obtain⟨z1,z2,⟨z3,z4,z5⟩,z6⟩:=z;simp only at p0 p1 p2 p3;obtain rfl:z6=a.par:=hz2.2.1;have CE:=L (fun d os=>Calls.regrown_of (d:=d) (os:=os) (FD _ (xK.on (ay w2 d os))));obtain⟨an,han⟩:∃ n,n=ad.length:=⟨_,rfl⟩;clear FD hq px p0 p1 p2;have q3:=aG p3;simp only [<- han] at ix CE uh HB;have HAN:=L han;clear han hz2 hak hk1 uT xK hz1 p3;have a0:=aG (show w2.cell? ⟨w.heap.size,0,Y⟩=X (V O me) from uh.out.cell 0);have a1:=aG (show w2.cell? ⟨w.heap.size,1,Y⟩=X (J no nn nc) from uh.out.cell 1);have a2:=aG (show w2.cell? ⟨w.heap.size,2,Y⟩=X (J ao an ac) from uh.out.cell 2);have a3:=aG (show w2.cell? ⟨w.heap.size,3,Y⟩=X (J so sn sc) from uh.out.cell 3);have a4:=aG (show w2.cell? ⟨w.heap.size,4,Y⟩=X (J ea gT gU) from uh.out.cell 4);have a5:=aG (show w2.cell? ⟨w.heap.size,5,Y⟩=X (J oo dN oc) from uh.out.cell 5);have b0:=aG (show w2.cell? ⟨w.heap.size+1,0,Y⟩=X (V O c) from VT.out.cell 0);have b1:=aG (show w2.cell? ⟨w.heap.size+1,1,Y⟩=X (V O d) from VT.out.cell 1);go_upto_region 4 with fail;refine wp_region_quiet_below (by kernel_rfl) (by kernel_rfl) ?_
  repeat (go_big_quiet_step (first | (with_reducible exact CE.out _ _)))
  refine wpQuiet_nil ?_;intro _ hw';obtain⟨⟨dq,osq⟩,hw''⟩:=hw';subst hw'';have Z6:=ay w2 dq osq;have HB2:=L (HB.out.on Z6);have HX2:=L (show jX _ _ _/\dX (iX _) _ _ from ⟨HX.out.1.on Z6,HX.out.2.mono fun _ _ h=>h.on Z6⟩);have Cz:=L (lg.out.trans (Z6.mono lg.out.size));have XJ:=L (uh.out.on Z6);have XK:=L (VT.out.on Z6);have XM:=L (Gv.out.on Z6);have oG:=L (zf.out.on Z6);clear lg uh VT Gv zf;clear Z6 HB HX CE ix q3 a0 a1 a2 a3 a4 a5 b0 b1;generalize grow (bH w2 dq) osq=w3 at *;generalize a.par=gQ at *;go_wp2_with fail
  go_loopw [13,38] (fun v i wr=>∃ k:Nat,k<=ln/\i=V O k/\Below w3.heap.size w3 wr/\iQ wr w3.heap.size v ((xs.take k).map (Jv gQ))) (fun _ i _=>ln-(intOf i).toNat)
  case atStart=>exact⟨0,bJ _,rfl,ah _ _,fF _ _⟩
  case round =>
   obtain⟨k,hk,rfl,hbe,hown⟩:=hrel;have BE:=L hbe;have OE:=L hown;clear hbe hown;have L9:=L (show ln<=900 from by have h1:=HX2.out.2.len; rw [LN.out] at h1; rw [h1]; exact aF (sK b (c,d) (c2,d2) f).2 L3.out);have l9:=L9.out;by_cases hlt:k<ln
   ·have hlt':(k:Int)<(ln:Int):=by omega
    have hw:IntKind.i64.wrap ((k:Int)+1)=(k:Int)+1:=IntWalk.i64_in _ (by omega);obtain⟨y,hy⟩:∃ y,xs[k]?=X y:=⟨_,ak (by rw [LN.out]; exact hlt)⟩;obtain⟨p,ix,px⟩:=Pq HX2.out.1 rfl LN.out hy;obtain⟨p0,p1,p2,p3,p4,p5,p6⟩:=px wr BE.out;have TKY:=L (show (xs.take (k+1)).map (Jv gQ)=(xs.take k).map (Jv gQ)++[Jv gQ y] from by rw [List.take_add_one,hy]; simp);obtain⟨y1,y2,y3,y4,⟨yo,yn,yc⟩,y6,y7⟩:=y;simp only at p0 p1 p2 p3 p4 p5 p6;clear px hy;go_upto_region 9 with fail;clear p0 p1 p2 p3 p4 p5 p6 ix;have NN:=fT wr (Z #[V O y1,V O y2,V O y3,V O y4,J yo yn yc,V O y6,aB y7] 68);have XE:=dI wr #[V O y1,V O y2,V O y3,V O y4,J yo yn yc,V O y6,aB y7] 68;have Rn:=L (BE.out.trans (NN.mono BE.out.size));have MW:=L (Bk.dh OE.out NN);clear BE OE NN;generalize wr.alloc (Z #[V O y1,V O y2,V O y3,V O y4,J yo yn yc,V O y6,aB y7] 68)=wa at *;obtain⟨c0_,c1_,c2_,c3_,c4_,c5_,c6_⟩:=XE.mP;have SB:=xZ (y1,y2,y3,y4,(yo,yn,yc),y6,y7) wa;go_wp2_with fail;refine SB.mono ?_;rintro e3 wb ⟨rfl,hb⟩;clear SB XE c0_ c1_ c2_ c3_ c4_ c5_ c6_;have BE3:=L (Rn.out.trans (hb.mono Rn.out.size));have OE3:=L (Bk.dh MW.out hb);clear hb Rn MW;have hl:=gH DI wb [((gQ,3,y1,y2,y3,y4,(yo,yn,yc),(Y,0,0)):nH)] 1 rfl (by simp) #[V O gQ,V O 3,V O y1,V O y2,V O y3,V O y4,J yo yn yc,J Y 0 0] (by rfl);have NB:=fT wb (Z #[V O gQ,V O 3,V O y1,V O y2,V O y3,V O y4,J yo yn yc,J Y 0 0] 58);obtain⟨v',x5,q2,o2,g2⟩:=fO DI w3.heap.size (Bk.dh OE3.out NB) (aQ hl) (by rw [aC,bS]; omega) (by simp) (aF BE3.out.size NB.size) 44;have q2:(aA #[44,44] 44 #[u13,J (X ⟨wb.heap.size,0,Y⟩) 1 1]).run aj (wb.alloc (Z #[V O gQ,V O 3,V O y1,V O y2,V O y3,V O y4,J yo yn yc,J Y 0 0] 58))=.ok v' x5:=q2;have BX:=L ((BE3.out.trans (NB.mono BE3.out.size)).grown g2 (aF BE3.out.size NB.size) (fun j hj=>((Bk.dh OE3.out NB).lt j hj).1));have O2:=L o2;clear hl NB o2 g2;go_wp2_with (first | (at_builtin; refine bf rfl _ _ 44 rfl rfl rfl q2 ?_) | fail)
    go_roundw
    case rel=>exact⟨k+1,hlt,by go_num,BX.out,by rw [TKY.out]; exact O2.out⟩
    case measure=>simp [intOf]; omega
   ·obtain rfl:k=ln:=by omega
    have ht:xs.take k=xs:=List.take_of_length_le (by rw [LN.out]; exact aI _);rw [ht] at OE;clear ht;go_upto_region 11 with fail;refine Rk _ wr w3.heap.size w.heap.size (w.heap.size+1) (w.heap.size+1+1) (w.heap.size+1+1+1) me gQ c d c2 d2 no ao so ea oo nn nc an ac sn sc gT gU dN oc u13 (xs.map (Jv gQ)) _ _ _ _ _ _ _ _ _ _ _ _ _ _ _ _ _ _ _ _ _ _ _ _ _ _ _ _ _ _ _ _ _ _ _ _ _ _ _ _ _ _ _ _ _ _ _ _ _ _ _ _ _ _ _ _ _ _ _ (XJ.out.on BE.out) (XK.out.on BE.out) (XM.out.on BE.out) (oG.out.on BE.out) XJ.out.lt XK.out.lt XM.out.lt oG.out.lt (by omega) (by omega) (by omega) BE.out.size OE.out (by rw [aC,LN.out]; omega) ?_;intro a9 x9 sl Gn h69 h79 hbx ho hblk hbl;have BL:=L (show Below w.heap.size w x9 from (Cz.out.trans (BE.out.mono Cz.out.size)).trans (hbl w.heap.size (by omega)));have HK:=L (show ∀ j,j<w3.heap.size->j≠w.heap.size+1+1+1->x9.heap[j]?=w3.heap[j]? from fun j hj hne=>(hblk j hj hne).trans (BE.out.block j hj));have HC:=L (eT (s1:=(Y,0,0)) (s2:=(Y,0,0)) (s3:=(Y,0,0)) (s4:=(Y,0,0)) (s5:=(Y,0,0)) HB2.out oG.out HK.out (by rw [(jl b (c,d) (c2,d2) f).2.1]; exact vL.out.on BL.out));have HX3:=L (Cx (s1:=(Y,0,0)) (s2:=(Y,0,0)) (s3:=(Y,0,0)) (s4:=(Y,0,0)) (s5:=(Y,0,0)) HX2.out.1 HX2.out.2 oG.out HK.out);have HU:=L (aQ ho);obtain⟨v0,v1,v2,v3,v4,v5⟩:=hbx.eZ;clear hbx ho hblk hbl HB2 HX2 BE OE;simp only [Exit.then]
    apply_assumption
    go_wp2_with fail;refine aM (v:=.tuple #[bA #[V O me,J no nn nc,J ao an ac,J so sn sc,J ea gT gU,J oo dN oc],dK sl]) (by simp [results,Tryz.results59,go_sem,h69,h79,v0,v1,v2,v3,v4,v5]) Gn ?_;have h9:=HAN.out;subst h9;rw [DB.out];exact⟨⟨(ea,gT,gU),sl,rfl,HC.out,_,HU.out,(VQ gQ HX3.out.2).append (.cons ⟨rfl,rfl,rfl,rfl,jf _,rfl⟩ .nil)⟩,BL.out⟩
end Bk
namespace Rl
open Go.RowKit Go.Sort Pu Rw Pr Va
theorem Nz (n:ByteArray) (a b:Kd) (w:aN):Calls aj 109 #[cv (r5 (n,a)),cv (r5 (n,b))] w (Kq n (eX a b) w):=by
 cases a with
 | rg p q=>cases b with
  | rg r s=>exact Q6 n p q r s w
  | tx t=>exact Qz n p q t w
  | pr t=>exact QA n p q t w
 | tx s=>cases b with
  | rg r q=>exact QC n s r q w
  | tx t=>exact QV n s t w
  | pr t=>exact QW n s t w
 | pr s=>cases b with
  | rg r q=>exact QD n s r q w
  | tx t=>exact QY n s t w
  | pr t =>
   by_cases h:t.size<=s.size
   ·exact QZ n s t w h
   ·exact Q0 n s t w h
theorem cnt_lt:∀ (m:List Cn) (n:ByteArray) (k:Nat) (y:Cn),k<lH m n->m[k]?=X y->Op.bytesLess y.1.toList n.toList=aU
 | [],n,k,y,_,h=>by simp at h
 | x::r,n,0,y,hk,h=>by
  simp only [aL,Option.some.injEq] at h;subst h;simp only [lH] at hk
  split at hk
  ·rename_i h; exact h
  ·omega
 | x::r,n,k+1,y,hk,h=>by
  simp only [lH] at hk
  split at hk
  ·exact cnt_lt r n k y (by omega) (by simpa using h)
  ·omega
theorem Ro:∀ (m:List Cn) (n:ByteArray) (y:Cn),m[lH m n]?=X y->Op.bytesLess y.1.toList n.toList=aD
 | [],n,y,h=>by simp at h
 | x::r,n,y,h=>by
  simp only [lH] at h
  split at h
  ·exact Ro r n y (by simpa using h)
  ·rename_i hn
   simp only [aL,Option.some.injEq] at h;subst h;exact Bool.eq_false_iff.2 hn
theorem Rp {m:List Cn} {n:ByteArray} {y:Cn} (h:m[lH m n]?=X y):oQ m n=decide (y.1=n):=by
 unfold oQ;rw [h]
theorem NA {m:List Cn} {n:ByteArray} (h:m.length<=lH m n):oQ m n=aD:=by
 unfold oQ;rw [List.getElem?_eq_none h]
theorem Jz (m r:List Cn) (c:Cn):je m (c::r)=match qB m c with
  | none=>Y
  | some n=>je n r:=rfl
theorem Gw {W U:aN} {v1 xv hi:aY} {a b:List C5} {c:C5} (h1:jL U W.heap.size v1 a) (hx:fG U xv [c]) (hh:fG W hi b) (la:a.length<=100) (lb:b.length<=100) (hb:Below W.heap.size W U) :
  ∃ v2 w2 v3 w3,(aA #[41,41] 41 #[v1,xv]).run aj U=.ok v2 w2/\(aA #[41,41] 41 #[v2,hi]).run aj w2=.ok v3 w3/\jL w3 W.heap.size v3 (a++c::b)/\Below W.heap.size W w3:=by
 obtain⟨v2,w2,r2,o2,g2⟩:=IU W.heap.size h1 hx (by omega) (by simp) hb.size;have b2:=hb.grown g2 hb.size (fun j hj=>(h1.lt j hj).1);obtain⟨v3,w3,r3,o3,g3⟩:=IU W.heap.size o2 (hh.on b2) (by simp; omega) (by omega) b2.size;have b3:=b2.grown g3 b2.size (fun j hj=>(o2.lt j hj).1);exact⟨v2,w2,v3,w3,r2,r3,by simpa using o3,b3⟩
theorem Rq {U w:aN} {cb:Nat} {c:C5} {row:Option Nat} (hx:fG U (J (X ⟨cb,0,Y⟩) 1 1) [c]) (hg:U.grownBy w row) (hne:row≠X cb):fG w (J (X ⟨cb,0,Y⟩) 1 1) [c]:=by
 rcases hx with⟨h,_⟩|⟨a,cap,h1,h2,h3,h4⟩
 ·cases h
 ·obtain⟨rfl,rfl⟩:(⟨cb,0,Y⟩:Addr)=a/\1=cap:=by simpa using h1
  exact aO ⟨_,1,rfl,h2,h3,fun j u hj=>hg.cell (h4 j u hj) (by rw [mZ]; exact fun e=>hne e.symm)⟩
theorem aah {W:aN} {lo hi:aY} {a b:List C5} (c:C5) (hl:fG W lo a) (hh:fG W hi b) (la:a.length<=100) (lb:b.length<=100) :
  ∃ v1 w1 v2 w2 v3 w3,(aA #[41,41] 41 #[J (X ⟨W.heap.size,0,Y⟩) 0 0,lo]).run aj (W.alloc (Z #[] 106))=.ok v1 w1 /\
   (aA #[41,41] 41 #[v1,J (X ⟨w1.heap.size,0,Y⟩) 1 1]).run aj (w1.alloc (Z #[aS c.1,V O c.2.1,V O c.2.2.1,V O c.2.2.2.1,aS c.2.2.2.2] 106))=.ok v2 w2 /\
   (aA #[41,41] 41 #[v2,hi]).run aj w2=.ok v3 w3/\Below W.heap.size W w1/\jL w3 W.heap.size v3 (a++c::b)/\Below W.heap.size W w3:=by
 have b0:=(ah W.heap.size W).alloc (aI _) (Z #[] 106);obtain⟨v1,w1,r1,o1,g1⟩:=IU W.heap.size (nO W) (hl.on b0) (by simp) (by omega) (by simp);have b1:=b0.grown g1 b0.size (fun j hj=>((nO W).lt j hj).1);have o1':=dh o1 ((ah _ _).alloc (aI _) (Z #[aS c.1,V O c.2.1,V O c.2.2.1,V O c.2.2.2.1,aS c.2.2.2.2] 106));obtain⟨v2,w2,v3,w3,r2,r3,o3,b3⟩:=Gw (a:=a) (by simpa using o1') (uJ w1 c) hh la lb (b1.alloc b1.size _);exact⟨v1,w1,v2,w2,v3,w3,r1,r2,r3,b1,o3,b3⟩
theorem Rs {W U:aN} {g cb:Nat} {lo hi:aY} {a b:List C5} {c:C5} (h0:jL U W.heap.size (J (X ⟨g,0,Y⟩) 0 0) []) (hx:fG U (J (X ⟨cb,0,Y⟩) 1 1) [c]) (hne:g≠cb) (hU:Below W.heap.size W U) (hl:fG W lo a) (hh:fG W hi b) (la:a.length<=100) (lb:b.length<=100) :
  ∃ v1 w1 v2 w2 v3 w3,(aA #[41,41] 41 #[J (X ⟨g,0,Y⟩) 0 0,lo]).run aj U=.ok v1 w1 /\
   (aA #[41,41] 41 #[v1,J (X ⟨cb,0,Y⟩) 1 1]).run aj w1=.ok v2 w2 /\
   (aA #[41,41] 41 #[v2,hi]).run aj w2=.ok v3 w3/\jL w3 W.heap.size v3 (a++c::b)/\Below W.heap.size W w3:=by
 obtain⟨v1,w1,r1,o1,g1⟩:=IU W.heap.size h0 (hl.on hU) (by simp) (by omega) hU.size;have b1:=hU.grown g1 hU.size (fun j hj=>(h0.lt j hj).1);obtain⟨v2,w2,v3,w3,r2,r3,o3,b3⟩:=Gw (a:=a) (by simpa using o1) (Rq hx g1 (by simp [Value.ownBlock,hne])) hh la lb b1;exact⟨v1,w1,v2,w2,v3,w3,r1,r2,r3,o3,b3⟩
theorem KQ {U:aN} {lo hi:aY} {a b:List C5} (c:C5) (hl:fG U lo a) (hh:fG U hi b) (la:a.length<=100) (lb:b.length<=100) :
  ∃ v1 w1 v2 w2 v3 w3,(aA #[41,41] 41 #[J (X ⟨U.heap.size,0,Y⟩) 0 0,lo]).run aj (U.drew.alloc (Z #[] 106))=.ok v1 w1 /\
   (aA #[41,41] 41 #[v1,J (X ⟨w1.heap.size,0,Y⟩) 1 1]).run aj (w1.alloc (Z #[aS c.1,V O c.2.1,V O c.2.2.1,V O c.2.2.2.1,aS c.2.2.2.2] 106))=.ok v2 w2 /\
   (aA #[41,41] 41 #[v2,hi]).run aj w2=.ok v3 w3/\Below U.heap.size U w1/\jL w3 U.heap.size v3 (a++c::b)/\Below U.heap.size U w3:=by
 obtain⟨v1,w1,v2,w2,v3,w3,r1,r2,r3,b1,o3,b3⟩:=aah (W:=U.drew) c (hl.on (ah _ _).drew) (hh.on (ah _ _).drew) la lb;exact⟨v1,w1,v2,w2,v3,w3,r1,r2,r3,(ah _ _).drew.trans b1,o3,(ah _ _).drew.trans b3⟩
theorem KR {U:aN} {lo hi:aY} {a b:List C5} (c:C5) (hl:fG U lo a) (hh:fG U hi b) (la:a.length<=100) (lb:b.length<=100) :
  ∃ v1 w1 v2 w2 v3 w3,(aA #[41,41] 41 #[J (X ⟨U.heap.size+1,0,Y⟩) 0 0,lo]).run aj ((U.drew.alloc (Z #[aS c.1,V O c.2.1,V O c.2.2.1,V O c.2.2.2.1,aS c.2.2.2.2] 106)).alloc (Z #[] 106))=.ok v1 w1 /\
   (aA #[41,41] 41 #[v1,J (X ⟨U.heap.size,0,Y⟩) 1 1]).run aj w1=.ok v2 w2 /\
   (aA #[41,41] 41 #[v2,hi]).run aj w2=.ok v3 w3/\jL w3 U.heap.size v3 (a++c::b)/\Below U.heap.size U w3:=by
 have h0:jL ((U.drew.alloc (Z #[aS c.1,V O c.2.1,V O c.2.2.1,V O c.2.2.2.1,aS c.2.2.2.2] 106)).alloc (Z #[] 106)) U.drew.heap.size (J (X ⟨U.heap.size+1,0,Y⟩) 0 0) []:=by
  have h:=mo (B':=U.drew.heap.size) (by simp) (nO (U.drew.alloc (Z #[aS c.1,V O c.2.1,V O c.2.2.1,V O c.2.2.2.1,aS c.2.2.2.2] 106)))
  rwa [show (U.drew.alloc (Z #[aS c.1,V O c.2.1,V O c.2.2.1,V O c.2.2.2.1,aS c.2.2.2.2] 106)).heap.size=U.heap.size+1 by simp] at h
 obtain⟨v1,w1,v2,w2,v3,w3,r1,r2,r3,o3,b3⟩:=Rs (W:=U.drew) (cb:=U.heap.size) h0 ((uJ U.drew c).on ((ah _ _).alloc (aI _) _)) (by omega) (((ah _ _).alloc (aI _) _).alloc (by simp) _) (hl.on (ah _ _).drew) (hh.on (ah _ _).drew) la lb;exact⟨v1,w1,v2,w2,v3,w3,r1,r2,r3,o3,(ah _ _).drew.trans b3⟩
theorem KT {U:aN} {lo hi:aY} {a b:List C5} (c:C5) (hl:fG U lo a) (hh:fG U hi b) (la:a.length<=100) (lb:b.length<=100) :
  ∃ v1 w1 v2 w2 v3 w3,(aA #[41,41] 41 #[J (X ⟨U.heap.size,0,Y⟩) 0 0,lo]).run aj ((U.drew.alloc (Z #[] 106)).alloc (Z #[aS c.1,V O c.2.1,V O c.2.2.1,V O c.2.2.2.1,aS c.2.2.2.2] 106))=.ok v1 w1 /\
   (aA #[41,41] 41 #[v1,J (X ⟨U.heap.size+1,0,Y⟩) 1 1]).run aj w1=.ok v2 w2 /\
   (aA #[41,41] 41 #[v2,hi]).run aj w2=.ok v3 w3/\jL w3 U.heap.size v3 (a++c::b)/\Below U.heap.size U w3:=by
 have hx:fG ((U.drew.alloc (Z #[] 106)).alloc (Z #[aS c.1,V O c.2.1,V O c.2.2.1,V O c.2.2.2.1,aS c.2.2.2.2] 106)) (J (X ⟨U.heap.size+1,0,Y⟩) 1 1) [c]:=by
  have h:=uJ (U.drew.alloc (Z #[] 106)) c
  rwa [show (U.drew.alloc (Z #[] 106)).heap.size=U.heap.size+1 by simp] at h
 obtain⟨v1,w1,v2,w2,v3,w3,r1,r2,r3,o3,b3⟩:=Rs (W:=U.drew) (g:=U.heap.size) (dh (nO U.drew) ((ah _ _).alloc (aI _) _)) hx (by omega) (((ah _ _).alloc (aI _) _).alloc (by simp) _) (hl.on (ah _ _).drew) (hh.on (ah _ _).drew) la lb;exact⟨v1,w1,v2,w2,v3,w3,r1,r2,r3,o3,(ah _ _).drew.trans b3⟩
theorem VU (a b:ByteArray) (h:¬ a=b):(a.toList == b.toList)=aD:=by
 rw [beq_eq_false_iff_ne];exact fun e=>h (nL e)
def VW (r:Option (List Cn)) (w:aN) (e:Ending) (w':aN):Prop:=Below w.heap.size w w'/\(match r with
 | some p=>∃ v,e=bG (.tuple #[v,aB aU])/\fG w' v (p.map r5)
 | none=>e=bG (.tuple #[J Y 0 0,aB aD]))
theorem ND (lv:aY) (l:List Cn) (w:aN) (hl:fG w lv (l.map r5)) (h10:l.length<=10):Calls aj 90 #[lv] w (VW (je [] l) w):=by
 have HL:=L hl;have LN:=L (show (l.map r5).length=l.length from aC ..);obtain⟨ao,ac,rfl⟩:=hl.len;rw [aC] at HL ⊢;obtain⟨n,hn⟩:∃ n,n=l.length:=⟨_,rfl⟩;rw [<- hn] at HL h10 ⊢;have HN:=L hn;obtain⟨res,hres⟩:∃ r,r=je [] l:=⟨_,rfl⟩;have HR:=L hres;have QS:=L (fun e w' (h:VW res w e w')=>(show VW (je [] l) w e w' from hres ▸ h));generalize hq:VW (je [] l) w=q at *;clear hq hl hn hres;go_enter Tryz.func90,Tryz.ntmps90;go_wp2
 go_loopw [4,12] (fun ov i wr=>∃ (j:Nat) (m:List Cn),j<=n/\i=V O j/\jL wr w.heap.size ov (m.map r5)/\mU m/\m.length<=j/\res=je m (l.drop j)/\Below w.heap.size w wr) (fun _ i _=>n-(intOf i).toNat)
 case atStart=>exact⟨0,[],bJ _,rfl,fF _ _,List.Pairwise.nil,by simp,by rw [HR.out]; rfl,ah _ _⟩
 case round =>
  obtain⟨j,m,hj,rfl,hown,hrise,hmj,XO,hb⟩:=hrel;have BW:=L hb;have OW:=L hown;have RM:=L hrise;have FO:=L XO;have m10:m.length<=10:=by omega
  clear hb hown hrise XO;by_cases hjl:j<n
  ·obtain⟨⟨xn,xk⟩,hx⟩:∃ x,l[j]?=X x:=⟨_,ak (by have:=HN.out; omega)⟩;obtain⟨p,ix,px⟩:=U7 (x:=r5 (xn,xk)) HL.out rfl (LN.out.trans HN.out.symm) (by rw [aR,hx]; rfl);obtain⟨p0,p1,p2,p3,p4⟩:=px _ BW.out;have DR:l.drop j=(xn,xk)::l.drop (j+1):=by
    have h:=List.drop_eq_getElem_cons (l:=l) (i:=j) (by have:=HN.out; omega);rw [h]
    congr 1
    exact (aV.1 hx).2
   have F2:=FO.out;rw [DR,Jz] at F2;have F3:=L F2;have B4:=L (BW.out.alloc BW.out.size (Z #[aS xn,V O (kN xk),V O (jg xk),V O (jh xk),aS (kT xk)] 106));have O4:=L (dh OW.out ((ah wr.heap.size wr).alloc (aI _) (Z #[aS xn,V O (kN xk),V O (jg xk),V O (jh xk),aS (kT xk)] 106)));have X4:=L (show dG (wr.alloc (Z #[aS xn,V O (kN xk),V O (jg xk),V O (jh xk),aS (kT xk)] 106)) wr.heap.size (cells5 (r5 (xn,xk))).toArray 106 from dI wr _ _);obtain⟨oo,oc,hov⟩:=(aQ OW.out).len;rw [aC] at hov;subst hov;have CL:=Ki m xn;simp only [r5] at p0 p1 p2 p3 p4;clear hx px F2 DR FO BW OW;go_wp2_with fail;clear ix p0 p1 p2 p3 p4;generalize wr.alloc (Z #[aS xn,V O (kN xk),V O (jg xk),V O (jh xk),aS (kT xk)] 106)=W1 at *;generalize wr.heap.size=cb at *
   go_loopw [7] (fun at_ wi=>∃ k:Nat,k<=lH m xn/\at_=V O k/\Below W1.heap.size W1 wi) (fun i _=>m.length-(intOf i).toNat)
   case atStart=>exact⟨0,bJ _,rfl,ah _ _⟩
   case round =>
    obtain⟨k,hk,rfl,hbi⟩:=hrel;have BI:=L hbi;have B5:=L (B4.out.trans (hbi.mono B4.out.size));have O5:=L (dh O4.out hbi);have X5:=L (X4.out.on hbi);clear hbi;obtain⟨b0,b1,b2,b3,b4⟩:=rO X5.out;simp only [r5] at b0 b1 b2 b3 b4;have OL:=L (show (m.map r5).length=m.length from aC ..);by_cases hkc:k<lH m xn
    ·obtain⟨⟨yn,yk⟩,hy⟩:∃ y,m[k]?=X y:=⟨_,ak (by omega)⟩;obtain⟨q,iy,q0,q1,q2,q3,q4⟩:=qJ (x:=r5 (yn,yk)) (aQ O5.out) rfl OL.out (by rw [aR,hy]; rfl) (ah _ _);have lt:=cnt_lt m xn k _ hkc hy;have hkl:k<m.length:=by omega
     have d0:decide (k<m.length)=aU:=by simpa using hkl
     have d1:decide ((k:Int)<(m.length:Int))=aU:=by simpa using hkl
     simp only [r5] at q0 q1 q2 q3 q4 lt;clear hy;go_wp2;refine wp_region_quiet_below (by kernel_rfl) (by kernel_rfl) ?_
     repeat (go_big_quiet_step (fail))
     refine wpQuiet_nil ?_;intro _ hw';obtain⟨⟨dq,osq⟩,hw''⟩:=hw';subst hw'';have BN:=L (BI.out.trans ((ay wr dq osq).mono BI.out.size));clear iy q0 q1 q2 q3 q4 lt b0 b1 b2 b3 b4;go_wp2
     go_roundw
     case rel=>exact⟨k+1,by omega,by go_num,BN.out⟩
     case measure=>simp [intOf]; omega
    ·have hkk:k=lH m xn:=by omega
     have HK:=L hkk;by_cases hkl:k<m.length
     ·obtain⟨⟨yn,yk⟩,hy⟩:∃ y,m[k]?=X y:=⟨_,ak hkl⟩;obtain⟨q,iy,q0,q1,q2,q3,q4⟩:=qJ (x:=r5 (yn,yk)) (aQ O5.out) rfl OL.out (by rw [aR,hy]; rfl) (ah _ _);have lt:=Ro m xn (yn,yk) (by rw [<- hkk]; exact hy);have d0:decide (k<m.length)=aU:=by simpa using hkl
      have d1:decide ((k:Int)<(m.length:Int))=aU:=by simpa using hkl
      have TH:=L (Rp (m:=m) (n:=xn) (y:=(yn,yk)) (by rw [<- hkk]; exact hy));have HY:=L hy;simp only [r5] at q0 q1 q2 q3 q4 lt;clear hy hkk hkc;by_cases he:yn=xn
      ·skip
       obtain rfl:yn=xn:=he;have TT:=L (show oQ m yn=aU by rw [TH.out]; simp);obtain⟨x,hx1,hx2,hx3⟩:=M0 (c:=(yn,xk)) TT.out;rw [<- HK.out,HY.out] at hx1;obtain rfl:=aZ hx1;rw [<- HK.out] at hx3;have INS:=L hx3;clear hx1 hx2 hx3 TH TT;go_wp2;refine wp_region_quiet_below (by kernel_rfl) (by kernel_rfl) ?_
       repeat (go_big_quiet_step (fail))
       refine wpQuiet_nil ?_;intro _ hw';obtain⟨⟨dq,osq⟩,hw''⟩:=hw';subst hw'';clear iy q0 q1 q2 q3 q4 b0 b1 b2 b3 b4;have BN:=L (B5.out.trans ((ay wr dq osq).mono B5.out.size));have ON:=L (dh O5.out (ay wr dq osq));have XN:=L (X5.out.on (ay wr dq osq));clear B5 O5 X5 BI;generalize grow (bH wr dq) osq=w2 at *;obtain⟨b0,b1,b2,b3,b4⟩:=rO XN.out;obtain⟨q,iy,q0,q1,q2,q3,q4⟩:=qJ (x:=r5 (yn,yk)) (aQ ON.out) rfl OL.out (by rw [aR,HY.out]; rfl) (ah _ _);simp only [r5] at q0 q1 q2 q3 q4 b0 b1 b2 b3 b4;go_wp2;refine wp_region_quiet_below (by kernel_rfl) (by kernel_rfl) ?_
       repeat (go_big_quiet_step (fail))
       refine wpQuiet_nil ?_;intro _ hw';obtain⟨⟨dq,osq⟩,hw''⟩:=hw';subst hw'';clear iy q0 q1 q2 q3 q4 b0 b1 b2 b3 b4;have BU:=L (BN.out.trans ((ay w2 dq osq).mono BN.out.size));have OU:=L (dh ON.out (ay w2 dq osq));have XU:=L (XN.out.on (ay w2 dq osq));clear BN ON XN;generalize grow (bH w2 dq) osq=U at *;obtain⟨q,iy,_,qx⟩:=kU Bh (x:=r5 (yn,yk)) (aQ OU.out) rfl OL.out (by rw [aR,HY.out]; rfl);have QX:=L (fun w hw=>five (qx w hw));obtain⟨q0,q1,q2,q3,q4⟩:=QX.out U (ah _ _);obtain⟨x0,x1,x2,x3,x4⟩:=eH XU.out;have CB:=L (fun W=>Nz yn yk xk W);generalize eX yk xk=r at *;have hcb:cb<U.heap.size:=XU.out.lt;simp only [r5] at q0 q1 q2 q3 q4 x0 x1 x2 x3 x4 CB;clear qx;change ∀ w,(bR 41 (J oo m.length oc) (V O k)).run aj w=.ok (aK (X q)) w at iy;go_wp2_with fail
       rename_i K hK
       have TAIL:∀ (pb:Nat) (wf:aN) (y:C5) (u13 u14 u15 u16 u17 u18 u19 u20 u21 u22 u23 u24 u25 u26 u27 u28 u29 u30 u31 u32 u33 u34 u35 u36 u37 u38 u39 u40 u41 u42 u43 u44 u45 u46 u47 u48 u49 u50 u51 u52 u53 u54 u55 u56 u57 u58 u59 u60 u61 u62 u63 u64 u65 u66 u67 u68 u69 u70 u71 u72 u73 u74 u75 u76:aY),dG wf pb (cells5 y).toArray 106->Below U.heap.size U wf->(∀ k',r=X k'->y=r5 (yn,k'))->K ⟨#[J ao n ac,undef,u2,u3,J oo m.length oc,undef,aK (X ⟨cb,0,Y⟩),V O k,aK (X ⟨pb,0,Y⟩),aB r.isSome,J ao n ac,V O n,V O j,u13,u14,u15,u16,u17,u18,u19,u20,u21,u22,u23,u24,u25,u26,u27,u28,u29,u30,u31,u32,u33,u34,u35,u36,u37,u38,u39,u40,u41,u42,u43,u44,u45,u46,u47,u48,u49,u50,u51,u52,u53,u54,u55,u56,u57,u58,u59,u60,u61,u62,u63,u64,u65,u66,u67,u68,u69,u70,u71,u72,u73,u74,u75,u76,undef],[]⟩ wf:=by
        clear q0 q1 q2 q3 q4 x0 x1 x2 x3 x4 CB iy QX XU hcb d0 d1 lt;intro pb wf y u13 u14 u15 u16 u17 u18 u19 u20 u21 u22 u23 u24 u25 u26 u27 u28 u29 u30 u31 u32 u33 u34 u35 u36 u37 u38 u39 u40 u41 u42 u43 u44 u45 u46 u47 u48 u49 u50 u51 u52 u53 u54 u55 u56 u57 u58 u59 u60 u61 u62 u63 u64 u65 u66 u67 u68 u69 u70 u71 u72 u73 u74 u75 u76 hyb hbw hyk;have HYB:=L hyb;have HBW:=L hbw;have HYK:=L hyk;have BF:=L (BU.out.trans (hbw.mono BU.out.size));clear hyb hbw hyk;apply hK;clear hK;rcases r with _|k'
        ·have F4:=L (show res=Y by rw [F3.out,INS.out]; rfl);go_wp2;refine QS.out _ _ ⟨BF.out,?_⟩;rw [F4.out]
         rfl
        ·have F4:=L (show res=je (m.set k (yn,k')) (l.drop (j+1)) by rw [F3.out,INS.out]; rfl);have R4:=L (jP m (yn,xk) (m.set k (yn,k')) RM.out (by rw [INS.out]; rfl)).1;have YE:=L (HYK.out k' rfl);have ROF:=L (show fG wf (J oo m.length oc) (m.map r5) from aQ (dh OU.out HBW.out));have BA:=L ((ah wf.heap.size wf).alloc (aI _) (Z #[] 106));have MK:=nO wf;obtain⟨v1,w1,r1,o0,g1⟩:=IU wf.heap.size MK (ROF.out.on BA.out) (by simp) (by simp; omega) (by simp);have B1:=L (BA.out.grown g1 (by simp) (fun jj hj=>(MK.lt jj hj).1));have o1:jL w1 wf.heap.size v1 (m.map r5):=by simpa using o0
         rcases iP o1 with⟨_,h2⟩|⟨g,cap,cur,rfl,hBg,hg,hlc,hcm,hsz,htk⟩
         ·rw [List.map_eq_nil_iff] at h2;rw [h2] at hkl;exact absurd hkl (Nat.not_lt_zero _)
         ·have fl:=Dv Bh (m.map r5) k (r5 (yn,yk)) (by rw [aR,HY.out]; rfl);have cl:∀ jj u,jj<5->(cells5 (r5 (yn,yk)))[jj]?=X u->w1.cell? ⟨g,k * 5+jj,Y⟩=X u:=fun jj u hj hu=>(World.ownsRow.cellAt o1 (k * 5+jj) (by rw [aC]; show _<m.length * 5; omega)).trans ((fl jj hj).trans hu);have c0:=cl 0 _ (by decide) rfl;have c1:=cl 1 _ (by decide) rfl;have c2:=cl 2 _ (by decide) rfl;have c3:=cl 3 _ (by decide) rfl;have c4:=cl 4 _ (by decide) rfl;have fz:=fun jj=>(show dG w1 g cur 106 from hg).fr jj;have BG:=L hBg;have O1:=L o1;have ix:=nE Bh g k m.length cap hkl;change ∀ w,(bR 41 (J (X ⟨g,0,Y⟩) m.length cap) (V O k)).run aj w=.ok (aK (X ⟨g,k * 5,Y⟩)) w at ix;change w1.cell? ⟨g,k * 5,Y⟩=X (aS yn) at c0;obtain⟨y0,y1,y2,y3,y4⟩:=eH (HYB.out.on B1.out);rw [aC] at r1 O1;simp only [r5] at c1 c2 c3 c4;clear o0 o1 g1 MK hBg hg hlc hcm hsz htk fl cl BA ROF;go_wp2_with (first | (at_builtin; refine bf rfl _ _ 41 rfl rfl rfl r1 ?_) | fail)
          go_roundw
          case rel=>exact⟨j+1,m.set k (yn,k'),by omega,by go_num,by
           rw [List.map_set,<- YE.out];exact mo BF.out.size (Nr O1.out (by rw [aC]) hkl),R4.out,by rw [List.length_set]; omega,F4.out,DY (BF.out.trans (B1.out.mono BF.out.size)) g (aF BF.out.size BG.out) _ _ _ _ _ _⟩
          case measure=>simp [intOf]; omega
       clear hK
       go_region_with (go_at_call 109; refine (CB.out _).mono ?_; rintro e w3 ⟨⟨y,rfl,hy⟩,hb3⟩; (try (have ZB:=L ((dI U.drew (cells5 (⟨#[]⟩,0,0,0,⟨#[]⟩)).toArray 106).on hb3); obtain⟨z0,z1,z2,z3,z4⟩:=eH ZB.out; have fz:=fun k=>ZB.out.fr k; simp only [World.size_drew] at z0 z1 z2 z3 z4 fz)))
       all_goals simp only [Exit.then]
       all_goals first
        | exact TAIL w3.heap.size _ y _ _ _ _ _ _ _ _ _ _ _ _ _ _ _ _ _ _ _ _ _ _ _ _ _ _ _ _ _ _ _ _ _ _ _ _ _ _ _ _ _ _ _ _ _ _ _ _ _ _ _ _ _ _ _ _ _ _ _ _ _ _ _ _ (dI w3 _ _) (((ah U.heap.size U).drew.trans hb3).alloc hb3.size _) hy
        | exact TAIL U.heap.size _ y _ _ _ _ _ _ _ _ _ _ _ _ _ _ _ _ _ _ _ _ _ _ _ _ _ _ _ _ _ _ _ _ _ _ _ _ _ _ _ _ _ _ _ _ _ _ _ _ _ _ _ _ _ _ _ _ _ _ _ _ _ _ _ _ (wo ((dI U.drew (cells5 (⟨#[]⟩,0,0,0,⟨#[]⟩)).toArray 106).on hb3) y) (gW (((ah U.heap.size U).drew.alloc (by simp) _).trans (hb3.mono (by simp))) U.heap.size (aI _) _ _ _ _ _) hy
      ·have eq:=VU yn xn he;have NT:=L (show oQ m xn=aD by rw [TH.out]; simpa using he);clear he TH;go_wp2;refine wp_region_quiet_below (by kernel_rfl) (by kernel_rfl) ?_
       repeat (go_big_quiet_step (fail))
       refine wpQuiet_nil ?_;intro _ hw';obtain⟨⟨dq,osq⟩,hw''⟩:=hw';subst hw'';clear iy q0 q1 q2 q3 q4 b0 b1 b2 b3 b4;have BN:=L (B5.out.trans ((ay wr dq osq).mono B5.out.size));have ON:=L (dh O5.out (ay wr dq osq));have XN:=L (X5.out.on (ay wr dq osq));clear B5 O5 X5 BI;generalize grow (bH wr dq) osq=w2 at *;obtain⟨b0,b1,b2,b3,b4⟩:=rO XN.out;obtain⟨q,iy,q0,q1,q2,q3,q4⟩:=qJ (x:=r5 (yn,yk)) (aQ ON.out) rfl OL.out (by rw [aR,HY.out]; rfl) (ah _ _);simp only [r5] at q0 q1 q2 q3 q4 b0 b1 b2 b3 b4;go_wp2;refine wp_region_quiet_below (by kernel_rfl) (by kernel_rfl) ?_
       repeat (go_big_quiet_step (fail))
       refine wpQuiet_nil ?_;intro _ hw';obtain⟨⟨dq,osq⟩,hw''⟩:=hw';subst hw'';have BU:=L (BN.out.trans ((ay w2 dq osq).mono BN.out.size));have OU:=L (dh ON.out (ay w2 dq osq));have XU:=L (XN.out.on (ay w2 dq osq));clear BN ON XN;generalize grow (bH w2 dq) osq=U at *;have INS:=L (Kj (c:=(xn,xk)) NT.out);rw [<- HK.out] at INS;have F4:=L (show res=je (m.take k++(xn,xk)::m.drop k) (l.drop (j+1)) by rw [F3.out,INS.out]);have R4:=L (jP m (xn,xk) _ RM.out INS.out).1;have L4:=L (show (m.take k++(xn,xk)::m.drop k).length<=j+1 by have:=HK.out; simp; omega);have KM:=L (show k<=(m.map r5).length by have:=HK.out; rw [aC]; omega);obtain⟨lo,AA,uz⟩:=loC (aQ OU.out) k KM.out;obtain⟨hi,AJ,vS⟩:=hiC (aQ OU.out) k KM.out;have la:((m.map r5).take k).length<=100:=by simp; omega
       have lb:((m.map r5).drop k).length<=100:=by simp; omega
       have MP:=L (show (m.take k++(xn,xk)::m.drop k).map r5=(m.map r5).take k++(xn,kN xk,jg xk,jh xk,kT xk)::(m.map r5).drop k by rw [bV,bC,List.map_take,List.map_drop]; rfl);obtain⟨va1,wa1,va2,wa2,va3,wa3,ra1,ra2,ra3,ba1,oa3,ba3⟩:=KQ (xn,kN xk,jg xk,jh xk,kT xk) uz vS la lb;obtain⟨vb1,wb1,vb2,wb2,vb3,wb3,rb1,rb2,rb3,ob3,bb3⟩:=KR (xn,kN xk,jg xk,jh xk,kT xk) uz vS la lb;obtain⟨vc1,wc1,vc2,wc2,vc3,wc3,rc1,rc2,rc3,oc3,bc3⟩:=KT (xn,kN xk,jg xk,jh xk,kT xk) uz vS la lb;have ENDS:=L (fun (v3:aY) (w3:aN) (o3:jL w3 U.heap.size v3 ((m.map r5).take k++(xn,kN xk,jg xk,jh xk,kT xk)::(m.map r5).drop k)) (b3:Below U.heap.size U w3)=>(show jL w3 w.heap.size v3 ((m.take k++(xn,xk)::m.drop k).map r5)/\Below w.heap.size w w3 from ⟨by rw [MP.out]; exact mo BU.out.size o3,BU.out.trans (b3.mono BU.out.size)⟩));have EA:=L (ENDS.out va3 wa3 oa3 ba3);have EB:=L (ENDS.out vb3 wb3 ob3 bb3);have EC_:=L (ENDS.out vc3 wc3 oc3 bc3);obtain⟨x0,x1,x2,x3,x4⟩:=eH XU.out;obtain⟨y0,y1,y2,y3,y4⟩:=eH (XU.out.on ba1);simp only [r5] at x0 x1 x2 x3 x4 y0 y1 y2 y3 y4 ra2 rb1 rc1;have hcb:cb<U.heap.size:=XU.out.lt;clear oa3 ba3 ob3 bb3 oc3 bc3 ENDS uz vS la lb ba1 MP XU OU BU;go_wp2_with fail
       go_region_law (first
        | (refine eD rfl (aH 64) (aH 67) 41 rfl (by simp [aJ]) (by simp [aJ]) ra1 ?_)
        | (refine eD rfl (aH 64) (aH 67) 41 rfl (by simp [aJ]) (by simp [aJ]) rb1 ?_)
        | (refine eD rfl (aH 64) (aH 67) 41 rfl (by simp [aJ]) (by simp [aJ]) rc1 ?_)
        | (refine eD rfl (aH 68) (aH 70) 41 rfl (by simp [aJ]) (by simp [aJ]) ra2 ?_)
        | (refine eD rfl (aH 68) (aH 70) 41 rfl (by simp [aJ]) (by simp [aJ]) rb2 ?_)
        | (refine eD rfl (aH 68) (aH 70) 41 rfl (by simp [aJ]) (by simp [aJ]) rc2 ?_)
        | (refine eD rfl (aH 71) (aH 74) 41 rfl (by simp [aJ]) (by simp [aJ]) ra3 ?_)
        | (refine eD rfl (aH 71) (aH 74) 41 rfl (by simp [aJ]) (by simp [aJ]) rb3 ?_)
        | (refine eD rfl (aH 71) (aH 74) 41 rfl (by simp [aJ]) (by simp [aJ]) rc3 ?_))
       all_goals simp only [Exit.inBlock,Exit.then]
       all_goals
        apply_assumption
        clear ra1 ra2 ra3 rb1 rb2 rb3 rc1 rc2 rc3 x0 x1 x2 x3 x4 y0 y1 y2 y3 y4 AA AJ;go_wp2
        go_roundw
        case rel=>first
         | exact⟨j+1,_,by omega,by go_num,EA.out.1,R4.out,L4.out,F4.out,EA.out.2⟩
         | exact⟨j+1,_,by omega,by go_num,EB.out.1,R4.out,L4.out,F4.out,EB.out.2⟩
         | exact⟨j+1,_,by omega,by go_num,EC_.out.1,R4.out,L4.out,F4.out,EC_.out.2⟩
        case measure=>simp [intOf]; omega
     ·have d0:decide (k<m.length)=aD:=by simpa using hkl
      have d1:decide ((k:Int)<(m.length:Int))=aD:=by simpa using hkl
      have NT:=L (NA (m:=m) (n:=xn) (by rw [<- hkk]; omega));clear hkk hkc hkl;go_wp2;refine wp_region_quiet_below (by kernel_rfl) (by kernel_rfl) ?_
      repeat (go_big_quiet_step (fail))
      refine wpQuiet_nil ?_;intro _ hw';obtain⟨⟨dq,osq⟩,hw''⟩:=hw';subst hw'';clear b0 b1 b2 b3 b4;have BN:=L (B5.out.trans ((ay wr dq osq).mono B5.out.size));have ON:=L (dh O5.out (ay wr dq osq));have XN:=L (X5.out.on (ay wr dq osq));clear B5 O5 X5 BI;generalize grow (bH wr dq) osq=w2 at *;go_wp2;refine wp_region_quiet_below (by kernel_rfl) (by kernel_rfl) ?_
      repeat (go_big_quiet_step (fail))
      refine wpQuiet_nil ?_;intro _ hw';obtain⟨⟨dq,osq⟩,hw''⟩:=hw';subst hw'';have BU:=L (BN.out.trans ((ay w2 dq osq).mono BN.out.size));have OU:=L (dh ON.out (ay w2 dq osq));have XU:=L (XN.out.on (ay w2 dq osq));clear BN ON XN;generalize grow (bH w2 dq) osq=U at *;have INS:=L (Kj (c:=(xn,xk)) NT.out);rw [<- HK.out] at INS;have F4:=L (show res=je (m.take k++(xn,xk)::m.drop k) (l.drop (j+1)) by rw [F3.out,INS.out]);have R4:=L (jP m (xn,xk) _ RM.out INS.out).1;have L4:=L (show (m.take k++(xn,xk)::m.drop k).length<=j+1 by have:=HK.out; simp; omega);have KM:=L (show k<=(m.map r5).length by have:=HK.out; rw [aC]; omega);obtain⟨lo,AA,uz⟩:=loC (aQ OU.out) k KM.out;obtain⟨hi,AJ,vS⟩:=hiC (aQ OU.out) k KM.out;have la:((m.map r5).take k).length<=100:=by simp; omega
      have lb:((m.map r5).drop k).length<=100:=by simp; omega
      have MP:=L (show (m.take k++(xn,xk)::m.drop k).map r5=(m.map r5).take k++(xn,kN xk,jg xk,jh xk,kT xk)::(m.map r5).drop k by rw [bV,bC,List.map_take,List.map_drop]; rfl);obtain⟨va1,wa1,va2,wa2,va3,wa3,ra1,ra2,ra3,ba1,oa3,ba3⟩:=KQ (xn,kN xk,jg xk,jh xk,kT xk) uz vS la lb;obtain⟨vb1,wb1,vb2,wb2,vb3,wb3,rb1,rb2,rb3,ob3,bb3⟩:=KR (xn,kN xk,jg xk,jh xk,kT xk) uz vS la lb;obtain⟨vc1,wc1,vc2,wc2,vc3,wc3,rc1,rc2,rc3,oc3,bc3⟩:=KT (xn,kN xk,jg xk,jh xk,kT xk) uz vS la lb;have ENDS:=L (fun (v3:aY) (w3:aN) (o3:jL w3 U.heap.size v3 ((m.map r5).take k++(xn,kN xk,jg xk,jh xk,kT xk)::(m.map r5).drop k)) (b3:Below U.heap.size U w3)=>(show jL w3 w.heap.size v3 ((m.take k++(xn,xk)::m.drop k).map r5)/\Below w.heap.size w w3 from ⟨by rw [MP.out]; exact mo BU.out.size o3,BU.out.trans (b3.mono BU.out.size)⟩));have EA:=L (ENDS.out va3 wa3 oa3 ba3);have EB:=L (ENDS.out vb3 wb3 ob3 bb3);have EC_:=L (ENDS.out vc3 wc3 oc3 bc3);obtain⟨x0,x1,x2,x3,x4⟩:=eH XU.out;obtain⟨y0,y1,y2,y3,y4⟩:=eH (XU.out.on ba1);simp only [r5] at x0 x1 x2 x3 x4 y0 y1 y2 y3 y4 ra2 rb1 rc1;have hcb:cb<U.heap.size:=XU.out.lt;clear oa3 ba3 ob3 bb3 oc3 bc3 ENDS uz vS la lb ba1 MP XU OU BU;go_wp2_with fail
      go_region_law (first
       | (refine eD rfl (aH 64) (aH 67) 41 rfl (by simp [aJ]) (by simp [aJ]) ra1 ?_)
       | (refine eD rfl (aH 64) (aH 67) 41 rfl (by simp [aJ]) (by simp [aJ]) rb1 ?_)
       | (refine eD rfl (aH 64) (aH 67) 41 rfl (by simp [aJ]) (by simp [aJ]) rc1 ?_)
       | (refine eD rfl (aH 68) (aH 70) 41 rfl (by simp [aJ]) (by simp [aJ]) ra2 ?_)
       | (refine eD rfl (aH 68) (aH 70) 41 rfl (by simp [aJ]) (by simp [aJ]) rb2 ?_)
       | (refine eD rfl (aH 68) (aH 70) 41 rfl (by simp [aJ]) (by simp [aJ]) rc2 ?_)
       | (refine eD rfl (aH 71) (aH 74) 41 rfl (by simp [aJ]) (by simp [aJ]) ra3 ?_)
       | (refine eD rfl (aH 71) (aH 74) 41 rfl (by simp [aJ]) (by simp [aJ]) rb3 ?_)
       | (refine eD rfl (aH 71) (aH 74) 41 rfl (by simp [aJ]) (by simp [aJ]) rc3 ?_))
      all_goals simp only [Exit.inBlock,Exit.then]
      all_goals
       apply_assumption
       clear ra1 ra2 ra3 rb1 rb2 rb3 rc1 rc2 rc3 x0 x1 x2 x3 x4 y0 y1 y2 y3 y4 AA AJ;go_wp2
       go_roundw
       case rel=>first
        | exact⟨j+1,_,by omega,by go_num,EA.out.1,R4.out,L4.out,F4.out,EA.out.2⟩
        | exact⟨j+1,_,by omega,by go_num,EB.out.1,R4.out,L4.out,F4.out,EB.out.2⟩
        | exact⟨j+1,_,by omega,by go_num,EC_.out.1,R4.out,L4.out,F4.out,EC_.out.2⟩
       case measure=>simp [intOf]; omega
  ·obtain rfl:j=n:=by omega
   have R:=L (show res=X m by rw [FO.out,List.drop_of_length_le (by have:=HN.out; omega)]; rfl);go_wp2;refine QS.out _ _ ⟨BW.out,?_⟩;rw [R.out];exact⟨_,rfl,aQ OW.out⟩
theorem NG {W:aN} {oO bv:aY} {a b:List Cn} (ha:fG W oO (a.map r5)) (hb:fG W bv (b.map r5)) (la:a.length<=5) (lb:b.length<=5) :
  ∃ v1 w1 v2 w2,(aA #[41,41] 41 #[J (X ⟨W.heap.size,0,Y⟩) 0 0,oO]).run aj (W.alloc (Z #[] 106))=.ok v1 w1 /\
   (aA #[41,41] 41 #[v1,bv]).run aj w1=.ok v2 w2/\fG w2 v2 ((a++b).map r5)/\Below W.heap.size W w2:=by
 have b0:=(ah W.heap.size W).alloc (aI _) (Z #[] 106);obtain⟨v1,w1,r1,o1,g1⟩:=IU W.heap.size (nO W) (ha.on b0) (by simp) (by rw [aC]; omega) (by simp);have b1:=b0.grown g1 b0.size (fun j hj=>((nO W).lt j hj).1);obtain⟨v2,w2,r2,o2,g2⟩:=IU W.heap.size o1 (hb.on b1) (by simp; omega) (by rw [aC]; omega) b1.size;have b2:=b1.grown g2 b1.size (fun j hj=>(o1.lt j hj).1);exact⟨v1,w1,v2,w2,r1,r2,by rw [bV]; exact aQ (by simpa using o2),b2⟩
theorem Gx (oO bv:aY) (a b:List Cn) (w:aN) (ha:fG w oO (a.map r5)) (hb:fG w bv (b.map r5)) (na:NF a) (nb:NF b):Calls aj 56 #[oO,bv] w fun e w'=>e=bG (aB (yB a b))/\Below w.heap.size w w':=by
 obtain⟨v1,w1,v2,w2,r1,r2,ro,b2⟩:=NG ha hb na.five nb.five;have B2:=L b2;have MK:=L (ND v2 (a++b) w2 ro (by have:=na.five; have:=nb.five; simp; omega));have RB:=L (PY (b:=b) na.rise);have MR:=L (PZ (b:=b) na.rise na.five);rw [RB.out] at MK;generalize je a b=res at *;generalize yB a b=r at *;clear ha hb na nb ro b2 RB;go_enter Tryz.func56,Tryz.ntmps56;go_wp2_with (first | (at_builtin; refine bf rfl _ _ 41 rfl rfl rfl r1 ?_) | (at_builtin; refine bf rfl _ _ 41 rfl rfl rfl r2 ?_) | fail);refine MK.out.mono ?_;rintro e3 w3 ⟨hb3,h3⟩;have B3:=L (B2.out.trans (hb3.mono B2.out.size));clear hb3 MK r1 r2;rcases res with _|p
 ·have R:=L (show r=aD from MR.out);obtain rfl:=h3;clear MR;go_wp2;go_ret;exact⟨dZ R.out.symm,B3.out⟩
 ·obtain⟨v,rfl,hp⟩:=h3;obtain⟨po,pc,rfl⟩:=hp.len;have R:=L (show r=decide (p.length<=5) from MR.out);rw [aC];clear MR hp;by_cases h5:p.length<=5
  ·have d1:decide ((p.length:Int)<=5)=aU:=by simp; omega
   have R2:=L (show r=aU by rw [R.out]; simpa using h5);clear R h5;go_wp2;go_ret;exact⟨dZ R2.out.symm,B3.out⟩
  ·have d1:decide ((p.length:Int)<=5)=aD:=by simp; omega
   have R2:=L (show r=aD by rw [R.out]; simpa using h5);clear R h5;go_wp2;go_ret;exact⟨dZ R2.out.symm,B3.out⟩
end Rl
namespace Av
open Go.RowKit Go.ChangeShapes Go.WideShapes Bk
theorem aal {H:Type} {enc:TypeId×aY->H} {W:aN} {sp:Nat->Bool} {held:Bool} {fuel:Nat} {g1:aY} {x:DataW H×List MemPlace}
  (hf:bg enc aj W 0 sp held fuel 22 [g1]=X x):∃ n:Nat,n<=maxLen/\Jq W g1 n:=by
 rcases Deep.open_slice Tryz.underlying22 hf with⟨h1,_⟩|⟨a,len,cap,m,n,D,Pl,h1,_,h3,h4,h5,_,hx⟩
 ·have e:g1=J Y 0 0:=by simpa using h1
  exact⟨0,bJ _,⟨Y,0,e⟩,fun i hi=>by omega⟩
 ·have e:g1=J (X a) len cap:=by simpa using h1
  rw [e];have hle:len<=m:=by rw [h5]; split <;> omega
  refine⟨len,by omega,⟨X a,cap,rfl⟩,fun i hi=>?_⟩;obtain⟨cs',k1,k2⟩:=hx i (by omega);obtain⟨xs,n',_,_,hcl,hxl,hy⟩:=bQ Tryz.underlying83 k2;rw [VA] at hcl k1
  match cs',hcl with
  | [c0,c1,c2,c3,c4,c5,d1],_ =>
   have f0:bg enc aj W 0 sp held n' 3 (([c0,c1,c2,c3,c4,c5,d1].drop 0).take (Tryz.prog.cellsOf 3))=xs[0]?:=hy 0 _ rfl;have f1:bg enc aj W 0 sp held n' 3 (([c0,c1,c2,c3,c4,c5,d1].drop 1).take (Tryz.prog.cellsOf 3))=xs[1]?:=hy 1 _ rfl;have f2:bg enc aj W 0 sp held n' 3 (([c0,c1,c2,c3,c4,c5,d1].drop 2).take (Tryz.prog.cellsOf 3))=xs[2]?:=hy 2 _ rfl;have f3:bg enc aj W 0 sp held n' 3 (([c0,c1,c2,c3,c4,c5,d1].drop 3).take (Tryz.prog.cellsOf 3))=xs[3]?:=hy 3 _ rfl;have f4:bg enc aj W 0 sp held n' 3 (([c0,c1,c2,c3,c4,c5,d1].drop 4).take (Tryz.prog.cellsOf 3))=xs[4]?:=hy 4 _ rfl;have fp:bg enc aj W 0 sp held n' 72 (([c0,c1,c2,c3,c4,c5,d1].drop 5).take (Tryz.prog.cellsOf 72))=xs[5]?:=hy 5 _ rfl;have abU:xs.length=5+1:=hxl;simp only [In.I7,Pr.ZU,bZ,bL,bN,cu] at f0 f1 f2 f3 f4 fp;rw [ak (by omega)] at f0 f1 f2 f3 f4 fp;obtain⟨m0,e0,_,w0⟩:=bD bn f0;obtain⟨m1,e1,_,w1⟩:=bD bn f1;obtain⟨m2,e2,_,w2⟩:=bD bn f2;obtain⟨m3,e3,_,w3⟩:=bD bn f3;obtain⟨m4,e4,_,w4⟩:=bD bn f4;simp only [List.cons.injEq,and_true] at e0 e1 e2 e3 e4;subst e0 e1 e2 e3 e4;obtain⟨ys,n2,_,_,_,hyl,hp⟩:=bQ Tryz.underlying72 fp;have aht:ys.length=2:=hyl;have q0:bg enc aj W 0 sp held n2 25 (([c5,d1].drop 0).take (Tryz.prog.cellsOf 25))=ys[0]?:=hp 0 _ rfl;have q1:bg enc aj W 0 sp held n2 25 (([c5,d1].drop 1).take (Tryz.prog.cellsOf 25))=ys[1]?:=hp 1 _ rfl;simp only [Pr.DW,bZ,bL,bN,cu] at q0 q1;rw [ak (by omega)] at q0 q1;obtain⟨has,l1,i1⟩:=In.xU q0;obtain⟨vals,l2,i2⟩:=In.xU q1;obtain⟨x1,y1,rfl⟩:=i1.shape;obtain⟨x2,y2,rfl⟩:=i2.shape;obtain⟨_,_,k3⟩:=World.cells?_some k1;have k0:=k3 0 (by decide);rw [Rw.add_zero] at k0;refine⟨a.add (i * 7),m0,m1,m2,m3,m4,x1,_,y1,x2,_,y2,has,vals,World.block_lt_of_cell? W _ k0,fun w=>VB a i len cap hi w,fun j u hu=>?_,⟨In.sD w0,In.sD w1,In.sD w2,In.sD w3,In.sD w4⟩,i1,i2,l1,l2⟩;have hj:j<7:=(aV.1 hu).1;rw [<- hu];exact k3 j hj
theorem Rt:Tryz.prog.cellsOf 24=2:=by kernel_rfl
theorem Ru:Tryz.prog.cellsOf 22=1:=by kernel_rfl
theorem Rv {n:Int} (h:(Lit.int O n).wf=aU):-9223372036854775808<=n/\n<=9223372036854775807:=by
 have h2:(decide (IntKind.i64.min<=n) && decide (n<=IntKind.i64.max))=aU:=h;rw [Bool.and_eq_true,decide_eq_true_eq,decide_eq_true_eq,show IntKind.i64.min=-9223372036854775808 by decide,show IntKind.i64.max=9223372036854775807 by decide] at h2;exact h2
theorem Rx {H:Type} {enc:TypeId×aY->H} {W:aN} {r:Reach} {b0:Nat} {sp:Nat->Bool} {held:Bool} {v:aY} {d:DataW H} {ps:List MemPlace}
  (hval:Value.okWide aj W r b0 24 v) (hd:DataW.Trod enc aj W 0 sp held 24 v d ps) :
  ∃ (zn:Int) (u:aY) (n:Nat),v=bA #[V O zn,u]/\-9223372036854775808<=zn/\zn<=9223372036854775807/\n<=maxLen/\Jq W u n:=by
 obtain⟨cs,rfl,hsz⟩:=okWide_struct Tryz.underlying24 hval;obtain⟨fuel,hf⟩:=hd;obtain⟨xs,n,_,_,_,hxl,hx⟩:=bQ Tryz.underlying24 hf;rw [Rt] at hsz;obtain⟨l⟩:=cs
 match l,hsz with
 | [c0,c1],_ =>
  have f0:bg enc aj W 0 sp held n 3 (([c0,c1].drop 0).take (Tryz.prog.cellsOf 3))=xs[0]?:=hx 0 _ rfl;have f1:bg enc aj W 0 sp held n 22 (([c0,c1].drop 1).take (Tryz.prog.cellsOf 22))=xs[1]?:=hx 1 _ rfl;have abU:xs.length=2:=hxl;simp only [In.I7,Ru,bZ,bL,bN,cu] at f0 f1;rw [ak (by omega)] at f0 f1;obtain⟨m0,e0,_,w0⟩:=bD bn f0;simp only [List.cons.injEq,and_true] at e0;subst e0;obtain⟨k,h1,h2⟩:=aal f1;exact⟨m0,c1,k,rfl,(Rv w0).1,(Rv w0).2,h1,h2⟩
end Av
end Go.Proofs.YtkcfgbddlpomgaaGreat
