/-
  Rows of deliveries; . Conditions as told.
-/
import Derived.Test.YtkcfgbddlpomgaaGreatCQ023
import Derived.Test.YtkcfgbddlpomgaaGreatCQ020
set_option maxRecDepth 100000
set_option maxHeartbeats 64000000
open _root_.Bool renaming false->ay,true->aW
open _root_.Go renaming cell_regrown->U,World->aB,below_regrown->aC,Value->aK,Calls->aS,bodyPost_ret->aT,Addr->aZ,maxLen->bg
open Go.Addr renaming add->aP
open Go.Ending renaming returned->aL
open Go.IntKind renaming i64->O
open Go.IntWalk renaming i64_in->aH
open Go.Lib renaming hid->J
open Go.Obj renaming cells->aF
open Go.Proofs.Tryz renaming prog->Y,results63->bf
open Go.RowKit.Below renaming refl->aI
open Go.Value renaming slice->D,int->K,pointer->aj,bool->aO,agg->aR
open _root_.List renaming getElem?_eq_getElem->V,getElem?_cons_zero->Z,getElem?_cons_succ->ah,getElem?_toArray->ak,mem_of_getElem?->au,take_of_length_le->aD,length_append->aJ,length_take->aM,length_filter_le->aQ,length_drop->aU,mem_append->aX,length_map->aY
open _root_.Nat renaming le_succ->aG,zero_le->aN,le_refl->aV
open _root_.Option renaming none->X,some->aA
namespace Go.Proofs.YtkcfgbddlpomgaaGreat
namespace Bk
open Go.RowKit Go.Sort Rw YtkcfgbddlpomgaaGreat.Nm Pr Rl
abbrev yj:=Int×Int×Int×Sl
abbrev wM (x:yj):List aK:=[K O x.1,K O x.2.1,K O x.2.2.1,dK x.2.2.2]
abbrev aat (x:yj):aK:=aR #[K O x.1,K O x.2.1,K O x.2.2.1,dK x.2.2.2]
def EG:Ek yj:=⟨65,45,4,48,aR #[K O 0,K O 0,K O 0,D X 0 0],aat,wM⟩
theorem acz:(Tryz.prog.info? 65).map (fun i=>(i.zero,i.size,i.bytes))=aA (aA (aR #[K O 0,K O 0,K O 0,D X 0 0]),4,48):=by kernel_rfl
theorem acA (w:aB) (p:aZ) (x:yj) (h:∀ j u,(wM x)[j]?=aA u->w.cell? (p.add j)=aA u):(Instr.loadAt 65 (aj (aA p))).run Y w=.ok (aat x) w:=by
 have h0:=h 0 _ rfl;have h1:=h 1 _ rfl;have h2:=h 2 _ rfl;have h3:=h 3 _ rfl;simp [aP] at h0 h1 h2 h3;simp [go_sem,h0,h1,h2,h3]
theorem okG:EG.Ok where
 hu:=Tryz.underlying45
 info:=by
  have h:=acz;cases hi:Tryz.prog.info? 65 with
  | none=>rw [hi] at h; cases h
  | some i =>
   rw [hi] at h;simp only [Option.map_some,Option.some.injEq,Prod.mk.injEq] at h;exact⟨i,hi,h.1,h.2.1,h.2.2⟩
 zs:=rfl
 len:=fun _=>rfl
 one:=fun x u hu=>by
  simp only [EG,wM,List.mem_cons,List.not_mem_nil,or_false] at hu;rcases hu with rfl|rfl|rfl|rfl <;> rfl
 pos:=by decide
 few:=by decide
 load:=fun w p x h=>acA w p x h
abbrev VZ (W:aB) (v:aK) (l:List yj):Prop:=Row EG W v l
abbrev zl (W:aB) (B:Nat) (v:aK) (l:List yj):Prop:=Own EG W B v l
theorem elG {W:aB} {v:aK} {l:List yj} {ao:Option aZ} {n c k:Nat} {x:yj} (h:VZ W v l) (hv:v=D ao n c) (hn:l.length=n) (hk:l[k]?=aA x) :
  ∃ p:aZ,(∀ w,(Instr.indexAt 45 (D ao n c) (K O k)).run Y w=.ok (aj (aA p)) w)/\∀ w,Below W.heap.size W w->w.cell? p=aA (K O x.1)/\w.cell? ⟨p.block,p.off+1,X⟩=aA (K O x.2.1)/\w.cell? ⟨p.block,p.off+2,X⟩=aA (K O x.2.2.1)/\w.cell? ⟨p.block,p.off+3,X⟩=aA (dK x.2.2.2):=by
 obtain⟨p,h1,_,h2⟩:=kU okG h hv hn hk;exact⟨p,h1,fun w hw=>⟨by simpa [aP] using h2 w hw 0 _ rfl,by simpa [aP] using h2 w hw 1 _ rfl,by simpa [aP] using h2 w hw 2 _ rfl,by simpa [aP] using h2 w hw 3 _ rfl⟩⟩
def rz (p:List C5) (l:List An):Bool:=qD (p.map Vx) l
def uW (t:Id) (l:List An) (n:Int) (e:En):Bool:=decide (e.tree=t) && (decide (e.from_=n) && rz e.p l)
def uX (l:List An) (c:Int) (o:Ow):Bool:=decide (o.id.1=c) && rz o.p l
def toB (b:Br) (t:Id) (l:List An):List Int:=b.near.filter fun n=>b.ent.any (uW t l n)
def uo:List Int:=(List.range 32).map fun (c:Nat)=>(c:Int)
def uY (b:Br) (l:List An):List Int:=uo.filter fun c=>b.own.any (uX l c)
def jE (b:Br) (f:Int) (t:Id) (l:List An):List Int×List Int :=
 match b.dL.find? fun a=>decide (a.id=t) with
 | some a=>if a.par=f then (toB b t l,uY b l) else ([],[])
 | none=>([],[])
def puX (k:Int) (t x:Id) (pv av:Sl) (n:Int):nH:=(n,k,t.1,t.2,x.1,x.2,pv,av)
def dlX (x:Id) (av:Sl) (c:Int):yj:=(c,x.1,x.2,av)
end Bk
namespace Av
open Go.RowKit Go.Sort Rw YtkcfgbddlpomgaaGreat.Nm Pr Bk
def jU (near:List Int) (f:Int):Bool:=decide (f∈near) || f == -1
def qR {α:Type} (c:α->α->Int):List α->Bool
 | x::y::l=>decide (c x y<0) && qR c (y::l)
 | _=>aW
end Av
namespace Bk
open Go.RowKit Go.Sort Rw YtkcfgbddlpomgaaGreat.Nm Pr Rl
def jV (p q:List C5):Bool:=yB (p.map Vx) (q.map Vx)
theorem Ee (oO bv:aK) (p q:List C5) (w:aB) (ha:fG w oO p) (hb:fG w bv q) (hp:dM p) (hq:dM q) :
  aS Y 56 #[oO,bv] w fun e w'=>e=aL (aO (jV p q))/\Below w.heap.size w w':=by
 obtain⟨a,na,rfl⟩:=hp;obtain⟨b,nb,rfl⟩:=hq;unfold jV;rw [oD,oD];exact Gx oO bv a b w ha hb na nb
abbrev mgv (k:Int) (t x:Id) (pv qv:Sl):aK:=aR #[K O k,K O t.1,K O t.2,K O x.1,K O x.2,dK pv,dK qv]
theorem Ef (b:Br) (nv av sv ev ov:Sl) (f mk:Int) (t x:Id) (pv qv:Sl) (w:aB) (h:gZ w b nv av sv ev ov) (l2:b.dL.length<=900) (l3:b.ent.length<=900) (hok:∀ e∈b.ent,dM e.p) (hkn:∀ e∈b.ent,e.tree∈b.dL.map Ad.id) :
  aS Y 64 #[nG b.me nv av sv ev ov,K O f,mgv mk t x pv qv] w fun e w'=>(∃ ev' lo:Sl,e=aL (.tuple #[nG b.me nv av sv ev' ov,dK lo])/\gZ w' (jJ b t x f).1 nv av sv ev' ov/\kK w' lo (jJ b t x f).2)/\Below w.heap.size w w':=by
 obtain⟨no,nn,nc⟩:=nv;obtain⟨ao,an,ac⟩:=av;obtain⟨so,sn,sc⟩:=sv;obtain⟨eo,en,ec⟩:=ev;obtain⟨oo,dN,oc⟩:=ov;obtain⟨po,pn,pc⟩:=pv;obtain⟨qo,qn,qc⟩:=qv;obtain⟨c,d⟩:=t;obtain⟨c2,d2⟩:=x;have DP:=J (fun W hb'=>Cy b (no,nn,nc) (ao,an,ac) (so,sn,sc) (eo,en,ec) (oo,dN,oc) (c,d) (c2,d2) f W (h.on (show Below w.heap.size w W from hb')) l2 l3 hok hkn);have vL:=J h.near;obtain⟨h0,h1,h2,h3⟩:=gL w #[K O b.me,D no nn nc,D ao an ac,D so sn sc,D eo en ec,D oo dN oc] #[K O mk,K O c,K O d,K O c2,K O d2,D po pn pc,D qo qn qc] #[K O 0,D X 0 0,D X 0 0,D X 0 0,D X 0 0,D X 0 0] 33 43 33;obtain⟨me,hme⟩:∃ me,me=b.me:=⟨_,rfl⟩;simp only [<- hme] at h0 h1 h2 h3 DP ⊢;have gB:=J (h0);have nA:=J (h1);have kJ:=J (h2);have kZ:=J (h3);clear h0 h1 h2 h3 h l2 hme hok hkn;show aS Y 64 #[aR #[K O me,D no nn nc,D ao an ac,D so sn sc,D eo en ec,D oo dN oc],K O f,aR #[K O mk,K O c,K O d,K O c2,K O d2,D po pn pc,D qo qn qc]] w _;go_enter Tryz.func64,Tryz.ntmps64;go_upto_region 1 with fail;generalize (((w.alloc (aF #[K O me,D no nn nc,D ao an ac,D so sn sc,D eo en ec,D oo dN oc] 33)).alloc (aF #[K O mk,K O c,K O d,K O c2,K O d2,D po pn pc,D qo qn qc] 43)).alloc (aF #[K O 0,D X 0 0,D X 0 0,D X 0 0,D X 0 0,D X 0 0] 33))=W at *;have SW:=J (DP.out W gB.out);clear DP;obtain⟨x0,x1,x2,x3,x4,x5⟩:=nA.out.eZ;obtain⟨y0,y1,y2,y3,y4,y5,y6⟩:=kJ.out.mP;go_wp2_with fail;refine SW.out.mono ?_;rintro e1 w1 ⟨⟨⟨ea,gT,gU⟩,⟨la,ln,lc⟩,rfl,hbr,hou⟩,hb⟩;clear SW;clear x0 x1 x2 x3 x4 x5 y0 y1 y2 y3 y4 y5 y6;have oU:=J (gB.out.trans (hb.mono gB.out.size));have jO:=J (nA.out.on hb);have JE:=J (kJ.out.on hb);have nC:=J (kZ.out.on hb);clear gB nA kJ kZ;obtain⟨r0,r1,r2,r3,r4,r5⟩:=nC.out.eZ;obtain⟨Cm,Co,Cq,Cr,Ct,Cu⟩:=nC.out.kg;have zz:=nC.out.lt;have GG:=J (dH nC.out (K O me) (D no nn nc) (D ao an ac) (D so sn sc) (D ea gT gU) (D oo dN oc));have BL:=J (dw (b:=w.heap.size+1+1) oU.out (by omega) (K O me) (D no nn nc) (D ao an ac) (D so sn sc) (D ea gT gU) (D oo dN oc));have HK:=J (fun j (_:j<w1.heap.size) (hj:j≠w.heap.size+1+1)=>dB w1 (w.heap.size+1+1) (K O me) (D no nn nc) (D ao an ac) (D so sn sc) (D ea gT gU) (D oo dN oc) j hj);have HC:=J (eT (s1:=(X,0,0)) (s2:=(X,0,0)) (s3:=(X,0,0)) (s4:=(X,0,0)) (s5:=(X,0,0)) hbr nC.out HK.out (by rw [iR,(jl b (c,d) (c2,d2) f).2.1]; exact vL.out.on BL.out));have HO:=J (iN (s1:=(X,0,0)) (s2:=(X,0,0)) (s3:=(X,0,0)) (s4:=(X,0,0)) (s5:=(X,0,0)) hou nC.out HK.out);go_wp2_with fail;obtain⟨v0,v1,v2,v3,v4,v5⟩:=GG.out.eZ;refine aT (v:=.tuple #[aR #[K O me,D no nn nc,D ao an ac,D so sn sc,D ea gT gU,D oo dN oc],D la ln lc]) (by simp [results,Tryz.results64,go_sem,v0,v1,v2,v3,v4,v5]) rfl ?_;exact⟨⟨(ea,gT,gU),(la,ln,lc),rfl,HC.out,HO.out⟩,BL.out⟩
def mR (b:Br) (f:Int) (t x:Id) (p:List C5):Br×List Ou:=if (gN b ⟨t,x,p,f,ay⟩).2=ay then ((gN b ⟨t,x,p,f,ay⟩).1,[]) else
 match b.dL[(eU (b.dL.map Ad.id) t).toNat]? with
 | none=>((gN b ⟨t,x,p,f,ay⟩).1,[])
 | some a=>((gN b ⟨t,x,p,f,ay⟩).1,[AX a.par ⟨t,x,p,f,ay⟩])
theorem pX (b:Br) (f:Int) (t x:Id) (p:List C5):(mR b f t x p).1=(gN b ⟨t,x,p,f,ay⟩).1:=by
 unfold mR
 split
 ·rfl
 ·split <;> rfl
theorem NP {b:Br} {e:En} (h:(gN b e).2=aW):∃ (k:Nat) (a:Ad),eU (b.dL.map Ad.id) e.tree=k/\b.dL[k]?=aA a:=by
 unfold gN at h
 split at h
 ·cases h
 ·rename_i a ha
  split at h
  ·cases h
  ·rename_i h1
   have h2:=mE (b.dL.map Ad.id) e.tree;exact⟨(eU (b.dL.map Ad.id) e.tree).toNat,a,by omega,ha⟩
theorem JF (b:Br) (nv av sv ev ov:Sl) (f mk:Int) (t x:Id) (pv qv:Sl) (p:List C5) (w:aB) (h:gZ w b nv av sv ev ov) (hp:fG w (dK pv) p) (l2:b.dL.length<=900) (l3:b.ent.length<=900) (hok:∀ e∈b.ent,dM e.p) (hop:dM p) :
  aS Y 63 #[nG b.me nv av sv ev ov,K O f,mgv mk t x pv qv] w fun e w'=>(∃ ev' lo:Sl,e=aL (.tuple #[nG b.me nv av sv ev' ov,dK lo])/\gZ w' (mR b f t x p).1 nv av sv ev' ov/\kK w' lo (mR b f t x p).2)/\Below w.heap.size w w':=by
 obtain⟨no,nn,nc⟩:=nv;obtain⟨ao,an,ac⟩:=av;obtain⟨so,sn,sc⟩:=sv;obtain⟨eo,en,ec⟩:=ev;obtain⟨oo,dN,oc⟩:=ov;obtain⟨po,pn,pc⟩:=pv;obtain⟨qo,qn,qc⟩:=qv;obtain⟨c,d⟩:=t;obtain⟨c2,d2⟩:=x;have AD:=J (fun W hb'=>Q9 b (no,nn,nc) (ao,an,ac) (so,sn,sc) (eo,en,ec) (oo,dN,oc) (c,d,c2,d2,(po,pn,pc),f,ay) ⟨(c,d),(c2,d2),p,f,ay⟩ W (h.on (show Below w.heap.size w W from hb')) ⟨rfl,rfl,rfl,rfl,hp.on hb'⟩ l2 l3 hok hop);have vL:=J h.near;have HP:=J hp;obtain⟨h0,h1,h2,h3⟩:=gL w #[K O b.me,D no nn nc,D ao an ac,D so sn sc,D eo en ec,D oo dN oc] #[K O mk,K O c,K O d,K O c2,K O d2,D po pn pc,D qo qn qc] #[K O 0,D X 0 0,D X 0 0,D X 0 0,D X 0 0,D X 0 0] 33 43 33;obtain⟨me,hme⟩:∃ me,me=b.me:=⟨_,rfl⟩;simp only [<- hme] at h0 h1 h2 h3 AD ⊢;have gB:=J (h0);have nA:=J (h1);have kJ:=J (h2);have kZ:=J (h3);clear h0 h1 h2 h3 h l2 hme hok hp;show aS Y 63 #[aR #[K O me,D no nn nc,D ao an ac,D so sn sc,D eo en ec,D oo dN oc],K O f,aR #[K O mk,K O c,K O d,K O c2,K O d2,D po pn pc,D qo qn qc]] w _;go_enter Tryz.func63,Tryz.ntmps63;go_upto_region 1 with fail;generalize (((w.alloc (aF #[K O me,D no nn nc,D ao an ac,D so sn sc,D eo en ec,D oo dN oc] 33)).alloc (aF #[K O mk,K O c,K O d,K O c2,K O d2,D po pn pc,D qo qn qc] 43)).alloc (aF #[K O 0,D X 0 0,D X 0 0,D X 0 0,D X 0 0,D X 0 0] 33))=W at *;obtain⟨y0,y1,y2,y3,y4,y5,y6⟩:=kJ.out.mP;go_upto_region 2 with fail;clear y0 y1 y2 y3 y4 y5 y6;have W4:=J (show w.heap.size+3<=W.heap.size from by have:=kZ.out.lt; omega);have NN:=fT W (aF #[K O c,K O d,K O c2,K O d2,D po pn pc,K O f,aO ay] 68);have oU:=J (gB.out.trans (NN.mono gB.out.size));have jO:=J (nA.out.on NN);have JE:=J (kJ.out.on NN);have nC:=J (kZ.out.on NN);clear gB nA kJ kZ;clear NN;have Ny:=J (dI W #[K O c,K O d,K O c2,K O d2,D po pn pc,K O f,aO ay] 68);generalize W.alloc (aF #[K O c,K O d,K O c2,K O d2,D po pn pc,K O f,aO ay] 68)=Wa at *;have SW:=J (AD.out Wa oU.out);clear AD;obtain⟨x0,x1,x2,x3,x4,x5⟩:=jO.out.eZ;obtain⟨z0,z1,z2,z3,z4,z5,z6⟩:=Ny.out.mP;go_wp2_with fail;refine SW.out.mono ?_;rintro e1 w1 ⟨⟨⟨ea,gT,gU⟩,rfl,hbr⟩,hb⟩;clear SW;clear x0 x1 x2 x3 x4 x5 z0 z1 z2 z3 z4 z5 z6;have lg:=J (oU.out.trans (hb.mono oU.out.size));have mI:=J (jO.out.on hb);have AV:=J (JE.out.on hb);have q8:=J (nC.out.on hb);have q9:=J (Ny.out.on hb);clear oU jO JE nC Ny;obtain⟨fb,Jy⟩:∃ r,(gN b ⟨(c,d),(c2,d2),p,f,ay⟩).2=r:=⟨_,rfl⟩;have LB:=J Jy;rw [Jy];have w4:=W4.out;obtain⟨k0,k1,k2,k3,k4,k5⟩:=mI.out.eZ;obtain⟨pK,pO,pQ,pR,pU,pV⟩:=mI.out.kg;have zz:=mI.out.lt;have FB:=J (dH mI.out (K O me) (D no nn nc) (D ao an ac) (D so sn sc) (D ea gT gU) (D oo dN oc));have B2:=J (dw (b:=w.heap.size) lg.out (aV _) (K O me) (D no nn nc) (D ao an ac) (D so sn sc) (D ea gT gU) (D oo dN oc));have AZ:=J (fun j (_:j<w1.heap.size) (hj:j≠w.heap.size)=>dB w1 (w.heap.size) (K O me) (D no nn nc) (D ao an ac) (D so sn sc) (D ea gT gU) (D oo dN oc) j hj);have FX5:=J (show dG _ _ _ _ from (dB w1 (w.heap.size) (K O me) (D no nn nc) (D ao an ac) (D so sn sc) (D ea gT gU) (D oo dN oc) (w.heap.size+1) (by omega)).trans AV.out);have zm:=J (show dG _ _ _ _ from (dB w1 (w.heap.size) (K O me) (D no nn nc) (D ao an ac) (D so sn sc) (D ea gT gU) (D oo dN oc) (w.heap.size+1+1) (by omega)).trans q8.out);have FX8:=J (show dG _ _ _ _ from (dB w1 (w.heap.size) (K O me) (D no nn nc) (D ao an ac) (D so sn sc) (D ea gT gU) (D oo dN oc) (W.heap.size) (by omega)).trans q9.out);have HB:=J (eT (s1:=(no,nn,nc)) (s2:=(ao,an,ac)) (s3:=(so,sn,sc)) (s4:=(eo,en,ec)) (s5:=(oo,dN,oc)) hbr mI.out AZ.out (by rw [(jk b ⟨(c,d),(c2,d2),p,f,ay⟩).2.1]; exact vL.out.on B2.out));clear Jy lg mI AV q8 q9;go_upto_region 3 with fail;clear zz AZ k0 k1 k2 k3 k4 k5 pK pO pQ pR pU pV;unfold gM at FB B2 HB FX5 zm FX8;generalize ((((((w1.setCell ⟨w.heap.size,0,X⟩ (K O me)).setCell ⟨w.heap.size,1,X⟩ (D no nn nc)).setCell ⟨w.heap.size,2,X⟩ (D ao an ac)).setCell ⟨w.heap.size,3,X⟩ (D so sn sc)).setCell ⟨w.heap.size,4,X⟩ (D ea gT gU)).setCell ⟨w.heap.size,5,X⟩ (D oo dN oc))=w2 at *;have lI:=J (B2.out);have om:=J (FB.out);have wZ:=J (FX5.out);have lK:=J (zm.out);have oG:=J (FX8.out);clear B2 FB FX5 zm FX8;cases fb
 ·have x0:=om.out.cell 0;have x1:=om.out.cell 1;have x2:=om.out.cell 2;have x3:=om.out.cell 3;have x4:=om.out.cell 4;have x5:=om.out.cell 5;simp only [ak,Z,ah] at x0 x1 x2 x3 x4 x5;obtain⟨r0,r1,r2,r3,r4,r5⟩:=lK.out.eZ;obtain⟨Cm,Co,Cq,Cr,Ct,Cu⟩:=lK.out.kg;have zz:=lK.out.lt;have GG:=J (dH lK.out (K O me) (D no nn nc) (D ao an ac) (D so sn sc) (D ea gT gU) (D oo dN oc));have BL:=J (dw (b:=w.heap.size+1+1) lI.out (by omega) (K O me) (D no nn nc) (D ao an ac) (D so sn sc) (D ea gT gU) (D oo dN oc));have HK:=J (fun j (_:j<w2.heap.size) (hj:j≠w.heap.size+1+1)=>dB w2 (w.heap.size+1+1) (K O me) (D no nn nc) (D ao an ac) (D so sn sc) (D ea gT gU) (D oo dN oc) j hj);have HC:=J (eT (s1:=(X,0,0)) (s2:=(X,0,0)) (s3:=(X,0,0)) (s4:=(X,0,0)) (s5:=(X,0,0)) HB.out lK.out HK.out (by rw [(jk b ⟨(c,d),(c2,d2),p,f,ay⟩).2.1]; exact vL.out.on BL.out));go_wp2_with fail;obtain⟨v0,v1,v2,v3,v4,v5⟩:=GG.out.eZ;refine aT (v:=.tuple #[aR #[K O me,D no nn nc,D ao an ac,D so sn sc,D ea gT gU,D oo dN oc],D X 0 0]) (by simp [results,bf,go_sem,v0,v1,v2,v3,v4,v5]) rfl ?_;have hd:mR b f (c,d) (c2,d2) p=((gN b ⟨(c,d),(c2,d2),p,f,ay⟩).1,[]):=by unfold mR; rw [if_pos LB.out]
  rw [hd];exact⟨⟨(ea,gT,gU),(X,0,0),rfl,HC.out,pJ _⟩,BL.out⟩
 ·obtain⟨k,a,hk1,hak⟩:=NP LB.out;have hk1:eU (b.dL.map Ad.id) (c,d)=k:=hk1;have DB:=J (show mR b f (c,d) (c2,d2) p=((gN b ⟨(c,d),(c2,d2),p,f,ay⟩).1,[AX a.par ⟨(c,d),(c2,d2),p,f,ay⟩]) from by
   unfold mR;rw [if_neg (by rw [LB.out]; simp),hk1,Int.toNat_natCast,hak])
  obtain⟨ad,xK,uT⟩:=HB.out.dL;rw [(jk b ⟨(c,d),(c2,d2),p,f,ay⟩).2.2.1] at uT;obtain⟨z,hz1,hz2⟩:=uT.at k a hak;have FK:=yH uT;rw [<- FK] at hk1;obtain⟨q1,q2,hq⟩:=xK.len;obtain⟨pa,ix,pl,px⟩:=kU okD xK hq rfl hz1;have ix2:∀ w,(Instr.indexAt 28 (D ao an ac) (K O (k:Int))).run Y w=.ok (aj (aA pa)) w:=fun w=>by have h1:(D ao an ac)=D q1 ad.length q2:=hq; rw [h1]; exact ix w
  have pb:=px w2 (aI _ _);have p3:w2.cell? ⟨pa.block,pa.off+3,X⟩=aA (K O z.2.2.2):=by simpa [aP] using pb 3 _ rfl
  rw [hz2.2.1] at p3;have pn6:pa.block≠w.heap.size+1+1:=jT (E:=ED) (show dG w2 (w.heap.size+1+1) (iY 0 (X,0,0) (X,0,0) (X,0,0) (X,0,0) (X,0,0)) 33 from lK.out) (fun c=>⟨_,_,rfl,rfl⟩) (kY 0 (X,0,0) (X,0,0) (X,0,0) (X,0,0) (X,0,0)) pa z pb;clear hq ix pb px hz1 hz2 hak FK uT;go_upto_region 5 with fail;refine aag _ w2 w.heap.size (w.heap.size+1) (w.heap.size+1+1) W.heap.size me mk c d c2 d2 f a.par ay no ao so ea oo nn nc an ac sn sc gT gU dN oc po qo pn pc qn qc ad k pa _ _ _ _ _ _ _ _ _ _ _ _ _ _ _ _ _ _ _ _ _ _ _ _ _ _ _ _ _ _ _ _ _ _ _ _ _ _ _ _ _ _ _ om.out wZ.out lK.out oG.out (by omega) (by omega) (by omega) xK hk1 ix2 p3 pl pn6 ?_;intro a9 x9 sl Gn h69 h79 hbx ho hblk hbl;have BL:=J (show Below w.heap.size w x9 from lI.out.trans (hbl w.heap.size (by omega)));have HC:=J (eT (s1:=(X,0,0)) (s2:=(X,0,0)) (s3:=(X,0,0)) (s4:=(X,0,0)) (s5:=(X,0,0)) HB.out lK.out hblk (by rw [(jk b ⟨(c,d),(c2,d2),p,f,ay⟩).2.1]; exact vL.out.on BL.out));have HU:=J (Row.dn ho);obtain⟨v0,v1,v2,v3,v4,v5⟩:=hbx.eZ;clear hbx ho hblk hbl HB xK ix2 p3 pl pn6 hk1;simp only [Exit.then]
  apply_assumption
  go_wp2_with fail;refine aT (v:=.tuple #[aR #[K O me,D no nn nc,D ao an ac,D so sn sc,D ea gT gU,D oo dN oc],dK sl]) (by simp [results,bf,go_sem,h69,h79,v0,v1,v2,v3,v4,v5]) Gn ?_;rw [DB.out];exact⟨⟨ea,gT,gU,sl.1,sl.2.1,sl.2.2,rfl,HC.out,_,HU.out,.cons ⟨rfl,rfl,rfl,rfl,HP.out.on BL.out,rfl⟩ .nil⟩,BL.out⟩
def gD (s:Br×List Ou) (mt:Bool) (e:En) (gQ:Int):Br×List Ou:=if mt=ay then s else ((gN s.1 e).1,if (gN s.1 e).2=aW then s.2++[AX gQ e] else s.2)
theorem GI {b:Br} {e:En} (R:En->Prop) (h:∀ q∈b.ent,R q) (he:∀ u,R { e with up:=u }):∀ q∈(gN b e).1.ent,R q:=by
 unfold gN
 split
 ·exact h
 ·split
  ·exact h
  ·split
   ·exact h
   ·split
    ·exact h
    ·intro q hq;rcases aX.1 hq with h1|h1
     ·rcases aX.1 h1 with h2|h2
      ·exact h q (List.mem_of_mem_take h2)
      ·rw [List.mem_singleton.1 h2];exact he _
     ·exact h q (List.mem_of_mem_drop h1)
theorem GJ (b:Br) (e:En):(gN b e).1.ent.length<=b.ent.length+1:=by
 unfold gN
 split
 ·exact aG _
 ·split
  ·exact aG _
  ·split
   ·exact aG _
   ·split
    ·exact aG _
    ·show (fP _ _ _).length<=_;unfold fP;rw [aJ,aJ,aM,aU];simp;omega
structure K7 (b0 b:Br) (k:Nat):Prop where
 me:b.me=b0.me
 near:b.near=b0.near
 dL:b.dL=b0.dL
 seen:b.seen=b0.seen
 own:b.own=b0.own
 len:b.ent.length<=b0.ent.length+k
theorem K7.add {b0 b:Br} {k:Nat} (h:K7 b0 b k) (e:En):K7 b0 (gN b e).1 (k+1):=by
 obtain⟨h1,h2,h3,h4,h5⟩:=jk b e;exact⟨h1.trans h.me,h2.trans h.near,h3.trans h.dL,h4.trans h.seen,h5.trans h.own,by have:=GJ b e; have:=h.len; omega⟩
theorem K7.succ {b0 b:Br} {k:Nat} (h:K7 b0 b k):K7 b0 b (k+1):=⟨h.me,h.near,h.dL,h.seen,h.own,by have:=h.len; omega⟩
theorem K7.step {b0:Br} {s:Br×List Ou} {k:Nat} (h:K7 b0 s.1 k) (mt:Bool) (e:En) (t:Int):K7 b0 (gD s mt e t).1 (k+1):=by
 unfold gD
 split
 ·exact h.succ
 ·exact h.add e
theorem RV {s:Br×List Ou} (mt:Bool) (e:En) (t:Int) (R:En->Prop) (h:∀ q∈s.1.ent,R q) (he:∀ u,R { e with up:=u }):∀ q∈(gD s mt e t).1.ent,R q:=by
 unfold gD
 split
 ·exact h
 ·exact GI R h he
theorem RX {s:Br×List Ou} (mt:Bool) (e:En) (t:Int):(gD s mt e t).2.length<=s.2.length+1:=by
 unfold gD
 split
 ·exact aG _
 ·show (if _ then _ else _:List Ou).length<=_
  split
  ·simp
  ·exact aG _
def eO {α:Type} (l:List α) (f:Br×List Ou->α->Br×List Ou) (s0:Br×List Ou) (k:Nat):Br×List Ou:=(l.take k).foldl f s0
theorem nV {α:Type} {l:List α} {k:Nat} {a:α} (f:Br×List Ou->α->Br×List Ou) (s0:Br×List Ou) (h:l[k]?=aA a):eO l f s0 (k+1)=f (eO l f s0 k) a:=by
 unfold eO;rw [List.take_add_one,h,List.foldl_append]
 rfl
theorem lC {α:Type} {l:List α} {b0:Br} {o0:List Ou} (mt:α->Bool) (e:α->En) (t:α->Int) (R:En->Prop) (h0:∀ q∈b0.ent,R q) (hR:∀ a∈l,∀ u,R { e a with up:=u }):∀ k,k<=l.length->K7 b0 (eO l (fun s a=>gD s (mt a) (e a) (t a)) (b0,o0) k).1 k/\(∀ q∈(eO l (fun s a=>gD s (mt a) (e a) (t a)) (b0,o0) k).1.ent,R q)/\(eO l (fun s a=>gD s (mt a) (e a) (t a)) (b0,o0) k).2.length<=o0.length+k
 | 0,_=>⟨⟨rfl,rfl,rfl,rfl,rfl,aV _⟩,h0,aV _⟩
 | k+1,hk=>by
  obtain⟨a,ha⟩:∃ a,l[k]?=aA a:=⟨_,V hk⟩;obtain⟨h1,h2,h3⟩:=lC mt e t R h0 hR k (by omega) (o0:=o0);rw [nV _ _ ha];exact⟨h1.step _ _ _,RV _ _ _ R h2 (hR a (au ha)),Nat.le_trans (RX _ _ _) (by omega)⟩
def fU (near:List Int) (but kind:Int) (t x:Id) (p:List C5):List Ou:=(near.filter fun n=>n != but).map fun n=>⟨n,kind,t,x,p⟩
abbrev zq (x:Id) (o:Ow):En:=⟨x,o.id,o.p,-1,ay⟩
abbrev mJ (f:Int) (x:Id) (p:List C5) (s:Br×List Ou) (o:Ow):Br×List Ou:=gD s (jV o.p p) (zq x o) f
def kL (b:Br) (f:Int) (x:Id) (p:List C5):Br×List Ou:=if (fB b ⟨x,p,f⟩).2=ay then ((fB b ⟨x,p,f⟩).1,[]) else
 eO (fB b ⟨x,p,f⟩).1.own (mJ f x p) ((fB b ⟨x,p,f⟩).1,fU b.near f 1 x (0,0) p) (fB b ⟨x,p,f⟩).1.own.length
abbrev mW (x:Id) (p:List C5) (a:Ad):En:=⟨a.id,x,p,-1,ay⟩
abbrev jo (x:Id) (p:List C5) (s:Br×List Ou) (a:Ad):Br×List Ou:=gD s (jV p a.p) (mW x p a) a.par
def ownIn (b:Br) (x:Id) (p:List C5):Br:={ b with own:=fP b.own (fD (b.own.map Ow.id) x) ⟨x,p⟩ }
def jZ (b:Br) (x:Id) (p:List C5):Br×List Ou:=if (b.own[fD (b.own.map Ow.id) x]?).map Ow.id=aA x then (b,[]) else
 eO b.dL (jo x p) (ownIn b x p,[]) b.dL.length
theorem jF (b:Br) (a:Ad):(fB b a).1.me=b.me/\(fB b a).1.near=b.near/\(fB b a).1.ent=b.ent/\(fB b a).1.own=b.own:=by
 unfold fB
 split <;> exact⟨rfl,rfl,rfl,rfl⟩
theorem CQ (b:Br) (a:Ad):(fB b a).1.dL.length<=b.dL.length+1/\(fB b a).1.seen.length<=b.seen.length+1:=by
 unfold fB
 split
 ·exact⟨aG _,aG _⟩
 ·constructor <;> (show (fP _ _ _).length<=_; unfold fP; rw [aJ,aJ,aM,aU]; simp; omega)
theorem CX {W:aB} {near:List Int} {f k:Int} {t x:Id} {pv:Sl} {p:List C5} (hp:fG W (dK pv) p):dX (rQ W) (kW near f fun n=>(n,k,t.1,t.2,x.1,x.2,pv,(X,0,0))) (fU near f k t x p):=by
 unfold kW fU
 induction near.filter (fun n=>n != f) with
 | nil=>exact .nil
 | cons a l ih=>exact .cons ⟨rfl,rfl,rfl,rfl,hp,rfl⟩ ih
end Bk
namespace Ca
open Go.RowKit Go.Sort Rw YtkcfgbddlpomgaaGreat.Nm Pr Bk Rl
def Ve (W:aB) (x:nH) (o:Ou×List An):Prop:=x.1=o.1.gQ/\x.2.1=o.1.kind/\(x.2.2.1,x.2.2.2.1)=o.1.tree/\(x.2.2.2.2.1,x.2.2.2.2.2.1)=o.1.id/\fG W (dK x.2.2.2.2.2.2.1) o.1.p/\mF W (dK x.2.2.2.2.2.2.2) o.2
theorem Ve.on {W W':aB} {x:nH} {o:Ou×List An} (h:Ve W x o) (hb:Below W.heap.size W W'):Ve W' x o:=⟨h.1,h.2.1,h.2.2.1,h.2.2.2.1,h.2.2.2.2.1.on hb,h.2.2.2.2.2.on hb⟩
theorem NQ (x:At.A4):At.DJ x x=aW:=by simp [At.DJ]
theorem _root_.Go.Proofs.YtkcfgbddlpomgaaGreat.At.uq:∀ l:List At.A4,At.lJ l l=aW
 | []=>rfl
 | x::l=>by
  have h:=At.uq l;simp [At.lJ,NQ,h]
theorem NS (k c d g h:Int) (po:Option aZ) (pn pc:Nat) (qo:Option aZ) (qn qc:Nat) (ro:Option aZ) (rn rc:Nat) (so:Option aZ) (sn sc:Nat) (p:List C5) (kS:List An) (w:aB) (hp:fG w (D po pn pc) p) (hq:fG w (D qo qn qc) p) (hl:p.length<=1000) (hr:mF w (D ro rn rc) kS) (hs:mF w (D so sn sc) kS) (hal:kS.length<=1000) :
  aS Y 38 #[aR #[K O k,K O c,K O d,K O g,K O h,D po pn pc,D ro rn rc],aR #[K O k,K O c,K O d,K O g,K O h,D qo qn qc,D so sn sc]] w fun e w'=>e=aL (aO aW)/\Below w.heap.size w w':=by
 obtain⟨NB,K1,K2⟩:=gG w #[K O k,K O c,K O d,K O g,K O h,D po pn pc,D ro rn rc] #[K O k,K O c,K O d,K O g,K O h,D qo qn qc,D so sn sc] 43 43;have B2:=J NB;have X1:=J K1;have X2:=J K2;have e1:=rG c d c d aW (by simp);have e2:=rG g h g h aW (by simp);have SP:=J (fun w' (hb:Below _ _ w')=>MH _ _ p p w' ((hp.on NB).on hb) ((hq.on NB).on hb) (by omega) (by omega));have SS:=J (show ku p p=aW from (Bo p p).2 rfl);have HR:=J (hr.on NB);have HS:=J (hs.on NB);have HA:=J hal;have SA:=J (show At.lJ kS kS=aW from At.uq kS);clear NB K1 K2 hp hq hl hr hs hal;go_enter Tryz.func38,Tryz.ntmps38;go_upto_region 1 with fail;generalize (w.alloc (aF #[K O k,K O c,K O d,K O g,K O h,D po pn pc,D ro rn rc] 43)).alloc (aF #[K O k,K O c,K O d,K O g,K O h,D qo qn qc,D so sn sc] 43)=W at *;obtain⟨x0,x1,x2,x3,x4,x5,x6⟩:=X1.out.mP;obtain⟨y0,y1,y2,y3,y4,y5,y6⟩:=X2.out.mP;go_wp2_with fail;refine (SP.out _ (aI _ _)).mono ?_;rw [SS.out];rintro e3 w3 ⟨rfl,hb⟩;have B3:=J (B2.out.trans (hb.mono B2.out.size));have Y1:=X1.out.on hb;have Y2:=X2.out.on hb;have c4:=Y1.cell 6;have d4:=Y2.cell 6;simp at c4 d4;have SL:=J (At.Cc _ _ kS kS w3 (yP.2 (HR.out.on hb)) (yP.2 (HS.out.on hb)) (by have:=HA.out; omega) (by have:=HA.out; omega));clear hb SP X1 X2 Y1 Y2 B2 x0 x1 x2 x3 x4 x5 x6 y0 y1 y2 y3 y4 y5 y6;go_wp2_with fail;refine SL.out.mono ?_;rw [SA.out];rintro e4 w4 ⟨rfl,hb⟩;have B4:=J (B3.out.trans (hb.mono B3.out.size));clear hb SL B3;go_wp2_with fail;go_ret;exact⟨rfl,B4.out⟩
theorem NU (oO bv:aK) (l m:List nH) (L:List (Ou×List An)) (w:aB) (ha:FM w oO l) (hb:FM w bv m) (ua:dX (Ve w) l L) (ub:dX (Ve w) m L) (sa:∀ o∈L,o.1.p.length<=1000/\o.2.length<=1000) (hl:L.length<=1000000) :
  aS Y 13 #[oO,bv] w fun e w'=>e=aL (aO aW)/\Below w.heap.size w w':=by
 have UA:=J ua;have UB:=J ub;have SH:=J sa;have HA:=J ha;have HB:=J hb;obtain⟨ao,ac,rfl⟩:=ha.len;obtain⟨bo,bc,rfl⟩:=hb.len;have hlm:m.length=l.length:=by rw [ua.len,ub.len]
 rw [hlm] at HB ⊢;have HL:=J hlm;have hl2:l.length<=1000000:=by rw [ua.len]; exact hl
 obtain⟨n,hn⟩:∃ n,n=l.length:=⟨_,rfl⟩;simp only [<- hn] at HA HB hl2 ⊢;have HN:=J hn.symm;clear ua ub sa ha hb hlm hn hl;go_enter Tryz.func13,Tryz.ntmps13;go_wp2
 go_loopw [13] (fun i wr=>∃ k:Nat,k<=n/\i=K O k/\Below w.heap.size w wr) (fun i _=>n-(intOf i).toNat)
 case atStart=>exact⟨0,aN _,rfl,aI _ _⟩
 case round =>
  obtain⟨k,hk,rfl,hbe⟩:=hrel;have BE:=J hbe;clear hbe;by_cases hlt:k<n
  ·obtain⟨x,hx⟩:∃ x,l[k]?=aA x:=⟨_,V (by rw [HN.out]; exact hlt)⟩;obtain⟨y,hy⟩:∃ y,m[k]?=aA y:=⟨_,V (by rw [HL.out,HN.out]; exact hlt)⟩;obtain⟨p,ix,px⟩:=elU HA.out rfl HN.out hx;obtain⟨q,iy,py⟩:=elU HB.out rfl (HL.out.trans HN.out) hy;obtain⟨sx,hsx,ix_⟩:=oC UA.out k x hx;obtain⟨sy,hsy,iy_⟩:=oC UB.out k y hy;rw [hsx] at hsy;obtain rfl:=Option.some.inj hsy;obtain⟨x1,x2,x3,x4,x5,x6,⟨xo,xn,xc⟩,⟨x8,x9,x10⟩⟩:=x;obtain⟨y1,y2,y3,y4,y5,y6,⟨yo,yn,yc⟩,⟨y8,y9,y10⟩⟩:=y;obtain⟨⟨gQ,kd,⟨t1,t2⟩,⟨i1,i2⟩,sp⟩,sa⟩:=sx;obtain⟨h1,h2,h3,h4,rx,h6⟩:=ix_;obtain⟨g1,g2,g3,g4,ry,g6⟩:=iy_;simp only [Prod.mk.injEq] at h1 h2 h3 h4 g1 g2 g3 g4;obtain⟨rfl,rfl⟩:=h3;obtain⟨rfl,rfl⟩:=h4;obtain⟨rfl,rfl⟩:=g3;obtain⟨rfl,rfl⟩:=g4;subst h1 h2 g1 g2;simp only at px py;have p0:=U (px _ BE.out).1;have p1:=U (px _ BE.out).2.1;have p2:=U (px _ BE.out).2.2.1;have p3:=U (px _ BE.out).2.2.2.1;have p4:=U (px _ BE.out).2.2.2.2.1;have p5:=U (px _ BE.out).2.2.2.2.2.1;have p6:=U (px _ BE.out).2.2.2.2.2.2.1;have p7:=U (px _ BE.out).2.2.2.2.2.2.2;have q0:=U (py _ BE.out).1;have q1:=U (py _ BE.out).2.1;have q2:=U (py _ BE.out).2.2.1;have q3:=U (py _ BE.out).2.2.2.1;have q4:=U (py _ BE.out).2.2.2.2.1;have q5:=U (py _ BE.out).2.2.2.2.2.1;have q6:=U (py _ BE.out).2.2.2.2.2.2.1;have q7:=U (py _ BE.out).2.2.2.2.2.2.2;have CS:=J (fun d os=>Calls.regrown_of (d:=d) (os:=os) (NS y2 y3 y4 y5 y6 xo xn xc yo yn yc x8 x9 x10 y8 y9 y10 sp sa _ ((rx.on BE.out).on (aC wr d os)) ((ry.on BE.out).on (aC wr d os)) (SH.out _ (au hsx)).1 ((h6.on BE.out).on (aC wr d os)) ((g6.on BE.out).on (aC wr d os)) (SH.out _ (au hsx)).2));have hne:(y1 != y1)=ay:=by simp
   have hw3:IntKind.i64.wrap ((k:Int)+1)=(k:Int)+1:=aH _ (by omega);clear px py hx hy hsx rx ry h6 g6;go_wp2;refine wp_region_quiet_below (by kernel_rfl) (by kernel_rfl) ?_
   repeat (go_big_quiet_step (first | (with_reducible exact CS.out _ _)))
   refine wpQuiet_nil ?_;intro _ hw';obtain⟨⟨dq,osq⟩,hw''⟩:=hw';subst hw'';clear ix iy p0 q0 p1 q1 p2 q2 p3 q3 p4 q4 p5 q5 p6 q6 p7 q7 hne;go_wp2
   go_roundw
   case rel=>exact⟨k+1,by omega,by go_num,BE.out.trans ((aC wr dq osq).mono BE.out.size)⟩
   case measure=>simp [intOf]; omega
  ·obtain rfl:k=n:=by omega
   go_wp2;go_ret;exact⟨rfl,BE.out⟩
def V7 (W:aB) (x:yj) (o:(Int×eF)×List An):Prop:=x.1=o.1.1/\(x.2.1,x.2.2.1)=o.1.2/\mF W (dK x.2.2.2) o.2
theorem V7.on {W W':aB} {x:yj} {o:(Int×eF)×List An} (h:V7 W x o) (hb:Below W.heap.size W W'):V7 W' x o:=⟨h.1,h.2.1,h.2.2.on hb⟩
theorem JG (oO bv:aK) (l:List An) (w:aB) (ha:mF w oO l) (hb:mF w bv l) (hl:l.length<=1000) :
  aS Y 39 #[oO,bv] w fun e w'=>e=aL (aO aW)/\Below w.heap.size w w':=by
 have h:=At.Cc oO bv l l w (yP.2 ha) (yP.2 hb) (by omega) (by omega);rw [At.uq l] at h;exact h
theorem acC (c d:Int) (w:aB):(binOp .neq 38 (aR #[K O c,K O d]) (aR #[K O c,K O d])).run Y w=.ok (aO ay) w:=by
 have st:Tryz.prog.stoodInHeld 38=ay:=by kernel_rfl
 simp [go_sem,Tryz.underlying38,Tryz.underlying3,st]
theorem RY (oO bv:aK) (l m:List yj) (L:List ((Int×eF)×List An)) (w:aB) (ha:VZ w oO l) (hb:VZ w bv m) (ua:dX (V7 w) l L) (ub:dX (V7 w) m L) (sa:∀ o∈L,o.2.length<=1000) (hl:L.length<=1000000) :
  aS Y 14 #[oO,bv] w fun e w'=>e=aL (aO aW)/\Below w.heap.size w w':=by
 have UA:=J ua;have UB:=J ub;have SH:=J sa;have HA:=J ha;have HB:=J hb;obtain⟨ao,ac,rfl⟩:=ha.len;obtain⟨bo,bc,rfl⟩:=hb.len;have hlm:m.length=l.length:=by rw [ua.len,ub.len]
 rw [hlm] at HB ⊢;have HL:=J hlm;have hl2:l.length<=1000000:=by rw [ua.len]; exact hl
 obtain⟨n,hn⟩:∃ n,n=l.length:=⟨_,rfl⟩;simp only [<- hn] at HA HB hl2 ⊢;have HN:=J hn.symm;clear ua ub sa ha hb hlm hn hl;go_enter Tryz.func14,Tryz.ntmps14;go_wp2
 go_loopw [13] (fun i wr=>∃ k:Nat,k<=n/\i=K O k/\Below w.heap.size w wr) (fun i _=>n-(intOf i).toNat)
 case atStart=>exact⟨0,aN _,rfl,aI _ _⟩
 case round =>
  obtain⟨k,hk,rfl,hbe⟩:=hrel;have BE:=J hbe;clear hbe;by_cases hlt:k<n
  ·obtain⟨x,hx⟩:∃ x,l[k]?=aA x:=⟨_,V (by rw [HN.out]; exact hlt)⟩;obtain⟨y,hy⟩:∃ y,m[k]?=aA y:=⟨_,V (by rw [HL.out,HN.out]; exact hlt)⟩;obtain⟨p,ix,px⟩:=elG HA.out rfl HN.out hx;obtain⟨q,iy,py⟩:=elG HB.out rfl (HL.out.trans HN.out) hy;obtain⟨sx,hsx,ix_⟩:=oC UA.out k x hx;obtain⟨sy,hsy,iy_⟩:=oC UB.out k y hy;rw [hsx] at hsy;obtain rfl:=Option.some.inj hsy;obtain⟨x1,x2,x3,⟨x8,x9,x10⟩⟩:=x;obtain⟨y1,y2,y3,⟨y8,y9,y10⟩⟩:=y;obtain⟨⟨c_,⟨i1,i2⟩⟩,sa⟩:=sx;obtain⟨h1,h2,h6⟩:=ix_;obtain⟨g1,g2,g6⟩:=iy_;simp only [Prod.mk.injEq] at h1 h2 g1 g2;obtain⟨rfl,rfl⟩:=h2;obtain⟨rfl,rfl⟩:=g2;subst h1 g1;simp only at px py;have p0:=U (px _ BE.out).1;have p1:=U (px _ BE.out).2.1;have p2:=U (px _ BE.out).2.2.1;have p3:=U (px _ BE.out).2.2.2;have q0:=U (py _ BE.out).1;have q1:=U (py _ BE.out).2.1;have q2:=U (py _ BE.out).2.2.1;have q3:=U (py _ BE.out).2.2.2;have CS:=J (fun d os=>Calls.regrown_of (d:=d) (os:=os) (JG (D x8 x9 x10) (D y8 y9 y10) sa _ ((h6.on BE.out).on (aC wr d os)) ((g6.on BE.out).on (aC wr d os)) (SH.out _ (au hsx))));have en:=acC y2 y3;have hne:(y1 != y1)=ay:=by simp
   have hw3:IntKind.i64.wrap ((k:Int)+1)=(k:Int)+1:=aH _ (by omega);clear px py hx hy hsx h6 g6;go_wp2;refine wp_region_quiet_below (by kernel_rfl) (by kernel_rfl) ?_
   repeat (go_big_quiet_step (first | (with_reducible exact CS.out _ _)))
   refine wpQuiet_nil ?_;intro _ hw';obtain⟨⟨dq,osq⟩,hw''⟩:=hw';subst hw'';clear ix iy p0 q0 p1 q1 p2 q2 p3 q3 hne en;go_wp2
   go_roundw
   case rel=>exact⟨k+1,by omega,by go_num,BE.out.trans ((aC wr dq osq).mono BE.out.size)⟩
   case measure=>simp [intOf]; omega
  ·obtain rfl:k=n:=by omega
   go_wp2;go_ret;exact⟨rfl,BE.out⟩
end Ca
namespace Bk
open Go.RowKit Go.Sort Rw YtkcfgbddlpomgaaGreat.Nm Pr Rl
theorem any_succ {α:Type} {m:List α} {k:Nat} {e:α} {f:α->Bool} (h:m[k]?=aA e):(m.take (k+1)).any f=((m.take k).any f || f e):=by
 obtain⟨h1,h2⟩:=List.getElem?_eq_some_iff.1 h;rw [List.take_succ_eq_append_getElem h1,h2,List.any_append];simp
theorem K9 (oO bv:aK) (p:List C5) (l:List An) (w:aB) (ha:fG w oO p) (hb:mF w bv l) (hp:dM p) (hl:l.length<=100) :
  aS Y 37 #[oO,bv] w fun e w'=>e=aL (aO (rz p l))/\Below w.heap.size w w':=by
 obtain⟨a,na,rfl⟩:=hp;unfold rz;rw [oD];exact Jp oO bv a l w ha hb (by have:=na.five; omega) hl
noncomputable def acD:Code:=((Tryz.f12.body.bind (gV 2)).getD .skip)
theorem RZ (Q:Exit->Act->aB->Prop) (W:aB) (b3 b5:Nat) (k0 c d xc xd n:Int) (po ao so:Option aZ) (pn pc an ac sn sc:Nat) (l:List iB) (m:List En) (kS:List An) (u0 u1 u2 u4 u6 u7 u8 u9 u10 u13 u14 u15 u16 u17 u18 u19 u20 u21 u22 u23 u24 u25 u26 u27 u28 u29 u30 u31 u32 u33 u34 u35 u36 u37 u38 u39 u40 u41 u42 u43 u47 u48 u49 u50 u51 u52 u53 u54 u55 u56 u57 u58 u59 u60 u61 u62 u63 u64 u65 u66 u67 u68 u69 u70 u71 u72 u73 u74 u75 u76 u77 u78 u79 u80 u81 u82 u83 u84 u85 u86 u87 u88 u89 u90 u91 u92 u93 u94 u95 u96 u97 u98 u99 u100 u101 u102 u103 u104 u105 u106 u107 u108 u109 u110 u111 u112 u113 u114 u115 u116 u117 u118:aK)
  (h5:dG W b5 #[K O k0,K O c,K O d,K O xc,K O xd,D po pn pc,D ao an ac] 43) (hs:jX W (D so sn sc) l) (hn:l.length=sn) (hu:dX (iX W) l m) (hok:∀ e∈m,dM e.p) (hl:mF W (D ao an ac) kS) (hlen:kS.length<=100)
  (hQ:∀ (wr:aB) (v14 v46 v47 v48 v49 v50 v51 v52 v53 v54 v55 v56 v57 v58 v59 v60 v61 v62 v63 v64 v65 v66 v67 v68 v69 v70 v71:aK),Below W.heap.size W wr->Q .normal ⟨(u0::u1::u2::aj (aA ⟨b3,0,X⟩)::u4::aj (aA ⟨b5,0,X⟩)::u6::u7::u8::u9::u10::K O n::aO (m.any (uW (c,d) kS n))::u13::v14::u15::u16::u17::u18::u19::u20::u21::u22::u23::u24::u25::u26::u27::u28::u29::u30::u31::u32::u33::u34::u35::u36::u37::u38::u39::u40::u41::u42::u43::D so sn sc::K O (sn:Int)::v46::v47::v48::v49::v50::v51::v52::v53::v54::v55::v56::v57::v58::v59::v60::v61::v62::v63::v64::v65::v66::v67::v68::v69::v70::v71::u72::u73::u74::u75::u76::u77::u78::u79::u80::u81::u82::u83::u84::u85::u86::u87::u88::u89::u90::u91::u92::u93::u94::u95::u96::u97::u98::u99::u100::u101::u102::u103::u104::u105::u106::u107::u108::u109::u110::u111::u112::u113::u114::u115::u116::u117::u118::[]).toArray,[]⟩ wr) :
  Code.wp Y acD Q ⟨(u0::u1::u2::aj (aA ⟨b3,0,X⟩)::u4::aj (aA ⟨b5,0,X⟩)::u6::u7::u8::u9::u10::K O n::aO ay::u13::u14::u15::u16::u17::u18::u19::u20::u21::u22::u23::u24::u25::u26::u27::u28::u29::u30::u31::u32::u33::u34::u35::u36::u37::u38::u39::u40::u41::u42::u43::D so sn sc::K O (sn:Int)::K O 0::u47::u48::u49::u50::u51::u52::u53::u54::u55::u56::u57::u58::u59::u60::u61::u62::u63::u64::u65::u66::u67::u68::u69::u70::u71::u72::u73::u74::u75::u76::u77::u78::u79::u80::u81::u82::u83::u84::u85::u86::u87::u88::u89::u90::u91::u92::u93::u94::u95::u96::u97::u98::u99::u100::u101::u102::u103::u104::u105::u106::u107::u108::u109::u110::u111::u112::u113::u114::u115::u116::u117::u118::[]).toArray,[]⟩ W:=by
 have HQ:=J hQ;have H5:=J h5;have HS:=J hs;have HN:=J hn;have HU:=J hu;have OK:=J hok;have HL:=J hl;have HM:=J hlen;have LM:=J (show sn<=bg from by rw [<- hn]; exact hs.most);clear hQ h5 hs hn hu hok hl hlen
 conv=>arg 2; whnf
 go_wp2
 go_loopw [12,46] (fun v i wr=>∃ k:Nat,k<=sn/\i=K O k/\v=aO ((m.take k).any (uW (c,d) kS n))/\Below W.heap.size W wr) (fun _ i _=>sn-(intOf i).toNat)
 case atStart=>exact⟨0,aN _,rfl,rfl,aI _ _⟩
 case round =>
  obtain⟨k,hk,rfl,rfl,hbe⟩:=hrel;have BE:=J hbe;clear hbe;by_cases hlt:k<sn
  ·have lm:=LM.out;have hw3:IntKind.i64.wrap ((k:Int)+1)=(k:Int)+1:=aH _ (by unfold bg at lm; omega);clear lm;obtain⟨y,hy⟩:∃ y,l[k]?=aA y:=⟨_,V (by rw [HN.out]; exact hlt)⟩;obtain⟨p,ix,px⟩:=Pq HS.out rfl HN.out hy;obtain⟨p0,p1,p2,p3,p4,p5,p6⟩:=px wr BE.out;obtain⟨e,hm,hin⟩:=oC HU.out k _ hy;have AS:=J (any_succ (f:=uW (c,d) kS n) hm);obtain⟨r0,hr0⟩:∃ r,(m.take k).any (uW (c,d) kS n)=r:=⟨_,rfl⟩;obtain⟨t,ht⟩:∃ r,rz e.p kS=r:=⟨_,rfl⟩;have CV:=J (fun W' (hb':Below W.heap.size W W')=>(K9 (dK y.2.2.2.2.1) (D ao an ac) e.p kS W' (hin.2.2.2.2.on hb') (HL.out.on hb') (OK.out _ (au hm)) HM.out));rw [ht] at CV;obtain⟨y1,y2,y3,y4,⟨yo,yn,yc⟩,y6,y7⟩:=y;simp only at p0 p1 p2 p3 p4 p5 p6 CV;have NB:=J (fT wr (aF #[K O y1,K O y2,K O y3,K O y4,D yo yn yc,K O y6,aO y7] 68));have x_:=(H5.out.on BE.out).on NB.out;have x1:=x_.cell 1;have x2:=x_.cell 2;have x6:=x_.cell 6;simp only [ak,Z,ah] at x1 x2 x6;have BF:=J (BE.out.trans (NB.out.mono BE.out.size));clear x_;obtain⟨r,hr⟩:∃ r,(y1 == c && y2 == d)=r:=⟨_,rfl⟩;obtain⟨r2,hr2⟩:∃ r,(y6 == n)=r:=⟨_,rfl⟩;have he:=rG y1 y2 c d r hr;have HV:=J (show uW (c,d) kS n e=(r && (r2 && t)) by
    rw [<- hr,<- hr2,<- ht];unfold uW;rw [<- hin.1,<- hin.2.2.1];by_cases g1:y1=c <;> by_cases g2:y2=d <;> by_cases g3:y6=n <;> simp [g1,g2,g3])
   rw [HV.out] at AS;clear hr;rw [hr0];rw [hr0] at AS;clear px hy hr0 ht hm hin;cases r0
   ·cases r
    ·go_wp2
     go_roundw
     case rel=>exact⟨k+1,by omega,by go_num,by rw [AS.out]; rfl,BF.out⟩
     case measure=>simp [intOf]; omega
    ·cases r2
     ·go_wp2
      go_roundw
      case rel=>exact⟨k+1,by omega,by go_num,by rw [AS.out]; rfl,BF.out⟩
      case measure=>simp [intOf]; omega
     ·have CW:=J (CV.out _ BF.out);clear CV;go_wp2_with fail;refine CW.out.mono ?_;rintro e3 w3 ⟨rfl,hb⟩;have BG:=J (BF.out.trans (hb.mono BF.out.size));clear CW hb x1 x2 x6 p0 p1 p2 p3 p4 p5 p6 ix;go_wp2
      go_roundw
      case rel=>exact⟨k+1,by omega,by go_num,by rw [AS.out]; rfl,BG.out⟩
      case measure=>simp [intOf]; omega
   ·go_wp2
    go_roundw
    case rel=>exact⟨k+1,by omega,by go_num,by rw [AS.out]; rfl,BF.out⟩
    case measure=>simp [intOf]; omega
  ·obtain rfl:k=sn:=by omega
   have e:m.take k=m:=aD (by have:=HN.out; have:=HU.out.len; omega);rw [e];clear e;have HF:=J (fun v14 v46 v47 v48 v49 v50 v51 v52 v53 v54 v55 v56 v57 v58 v59 v60 v61 v62 v63 v64 v65 v66 v67 v68 v69 v70 v71=>HQ.out wr v14 v46 v47 v48 v49 v50 v51 v52 v53 v54 v55 v56 v57 v58 v59 v60 v61 v62 v63 v64 v65 v66 v67 v68 v69 v70 v71 BE.out);clear HQ;go_wp2;exact HF.out _ _ _ _ _ _ _ _ _ _ _ _ _ _ _ _ _ _ _ _ _ _ _ _ _ _ _
noncomputable def acE:Code:=((Tryz.f12.body.bind (gV 0)).getD .skip)
theorem R6 (Q:Exit->Act->aB->Prop) (W:aB) (b3 b5:Nat) (k0 c d xc xd:Int) (po ao so:Option aZ) (pn pc an ac sn sc:Nat) (no:Option aZ) (nn nc:Nat) (me:Int) (y2 y3 y5:aK) (near:List Int) (l:List iB) (m:List En) (kS:List An) (u0 u1 u2 u4 u6 u7 u8 u10 u11 u12 u13 u14 u15 u16 u17 u18 u19 u20 u21 u22 u23 u24 u25 u26 u27 u28 u29 u30 u31 u32 u33 u34 u35 u36 u40 u41 u42 u43 u44 u45 u46 u47 u48 u49 u50 u51 u52 u53 u54 u55 u56 u57 u58 u59 u60 u61 u62 u63 u64 u65 u66 u67 u68 u69 u70 u71 u72 u73 u74 u75 u76 u77 u78 u79 u80 u81 u82 u83 u84 u85 u86 u87 u88 u89 u90 u91 u92 u93 u94 u95 u96 u97 u98 u99 u100 u101 u102 u103 u104 u105 u106 u107 u108 u109 u110 u111 u112 u113 u114 u115 u116 u117 u118:aK)
  (h3:dG W b3 #[K O me,D no nn nc,y2,y3,D so sn sc,y5] 33) (h5:dG W b5 #[K O k0,K O c,K O d,K O xc,K O xd,D po pn pc,D ao an ac] 43) (hr:qW W (D no nn nc) near) (hnn:near.length=nn/\nn<=900) (hs:jX W (D so sn sc) l) (hn:l.length=sn) (hu:dX (iX W) l m) (hok:∀ e∈m,dM e.p) (hl:mF W (D ao an ac) kS) (hlen:kS.length<=100)
  (hQ:∀ (wr:aB) (v9 v11 v12 v14 v39 v40 v41 v42 v43 v44 v45 v46 v47 v48 v49 v50 v51 v52 v53 v54 v55 v56 v57 v58 v59 v60 v61 v62 v63 v64 v65 v66 v67 v68 v69 v70 v71 v72 v73 v74 v75 v76 v77 v78 v79:aK),Below W.heap.size W wr->iQ wr W.heap.size v9 ((near.filter fun n=>m.any (uW (c,d) kS n)).map (puX k0 (c,d) (xc,xd) (po,pn,pc) (ao,an,ac)))->Q .normal ⟨(u0::u1::u2::aj (aA ⟨b3,0,X⟩)::u4::aj (aA ⟨b5,0,X⟩)::u6::u7::u8::v9::u10::v11::v12::u13::v14::u15::u16::u17::u18::u19::u20::u21::u22::u23::u24::u25::u26::u27::u28::u29::u30::u31::u32::u33::u34::u35::u36::D no nn nc::K O (nn:Int)::v39::v40::v41::v42::v43::v44::v45::v46::v47::v48::v49::v50::v51::v52::v53::v54::v55::v56::v57::v58::v59::v60::v61::v62::v63::v64::v65::v66::v67::v68::v69::v70::v71::v72::v73::v74::v75::v76::v77::v78::v79::u80::u81::u82::u83::u84::u85::u86::u87::u88::u89::u90::u91::u92::u93::u94::u95::u96::u97::u98::u99::u100::u101::u102::u103::u104::u105::u106::u107::u108::u109::u110::u111::u112::u113::u114::u115::u116::u117::u118::[]).toArray,[]⟩ wr) :
  Code.wp Y acE Q ⟨(u0::u1::u2::aj (aA ⟨b3,0,X⟩)::u4::aj (aA ⟨b5,0,X⟩)::u6::u7::u8::D X 0 0::u10::u11::u12::u13::u14::u15::u16::u17::u18::u19::u20::u21::u22::u23::u24::u25::u26::u27::u28::u29::u30::u31::u32::u33::u34::u35::u36::D no nn nc::K O (nn:Int)::K O 0::u40::u41::u42::u43::u44::u45::u46::u47::u48::u49::u50::u51::u52::u53::u54::u55::u56::u57::u58::u59::u60::u61::u62::u63::u64::u65::u66::u67::u68::u69::u70::u71::u72::u73::u74::u75::u76::u77::u78::u79::u80::u81::u82::u83::u84::u85::u86::u87::u88::u89::u90::u91::u92::u93::u94::u95::u96::u97::u98::u99::u100::u101::u102::u103::u104::u105::u106::u107::u108::u109::u110::u111::u112::u113::u114::u115::u116::u117::u118::[]).toArray,[]⟩ W:=by
 have HQ:=J hQ;have H3:=J h3;have H5:=J h5;have HS:=J hs;have HN:=J hn;have HU:=J hu;have OK:=J hok;have HL:=J hl;have HM:=J hlen;have HR:=J hr;have HNN:=J hnn;clear hr hnn;clear hQ h3 h5 hs hn hu hok hl hlen
 conv=>arg 2; whnf
 go_wp2
 go_loopw [9,39] (fun v i wr=>∃ q:Nat,q<=nn/\i=K O q/\Below W.heap.size W wr/\iQ wr W.heap.size v (((near.take q).filter fun n=>m.any (uW (c,d) kS n)).map (puX k0 (c,d) (xc,xd) (po,pn,pc) (ao,an,ac)))) (fun _ i _=>nn-(intOf i).toNat)
 case atStart=>exact⟨0,aN _,rfl,aI _ _,fF _ _⟩
 case round =>
  obtain⟨q,hq,rfl,hbe,hown⟩:=hrel;have BE:=J hbe;have OE:=J hown;clear hbe hown;by_cases hlt:q<nn
  ·obtain⟨y,hy⟩:∃ y,near[q]?=aA y:=⟨_,V (by have:=HNN.out; omega)⟩;obtain⟨p,ix,_,px⟩:=kU Nm.I4 HR.out rfl HNN.out.1 hy;have p0:wr.cell? p=aA (K O y):=by simpa [aP] using px wr BE.out 0 _ rfl
   have ix:∀ w,(Instr.indexAt 25 (D no nn nc) (K O q)).run Y w=.ok (aj (aA p)) w:=ix;have nb:nn<=900:=HNN.out.2;clear px;have FS:=J (rJ near q y (fun n=>m.any (uW (c,d) kS n)) hy);have hw3:IntKind.i64.wrap ((q:Int)+1)=(q:Int)+1:=aH _ (by omega);have e4:=(H3.out.on BE.out).cell 4;simp only [ak,Z,ah] at e4
   go_upto_block 2 with (fail)
   refine RZ _ wr b3 b5 k0 c d xc xd y po ao so pn pc an ac sn sc l m kS _ _ _ _ _ _ _ _ _ _ _ _ _ _ _ _ _ _ _ _ _ _ _ _ _ _ _ _ _ _ _ _ _ _ _ _ _ _ _ _ _ _ _ _ _ _ _ _ _ _ _ _ _ _ _ _ _ _ _ _ _ _ _ _ _ _ _ _ _ _ _ _ _ _ _ _ _ _ _ _ _ _ _ _ _ _ _ _ _ _ _ _ _ _ _ _ _ _ _ _ _ _ _ _ _ _ _ _ _ _ _ _ (H5.out.on BE.out) (HS.out.on BE.out) HN.out (HU.out.mono fun _ _ h=>h.on BE.out) OK.out (HL.out.on BE.out) HM.out ?_;intro w2 v14 v46 v47 v48 v49 v50 v51 v52 v53 v54 v55 v56 v57 v58 v59 v60 v61 v62 v63 v64 v65 v66 v67 v68 v69 v70 v71 hb2;have B2:=J (BE.out.trans (hb2.mono BE.out.size));have O2:=J (dh OE.out hb2);have X5:=J ((H5.out.on BE.out).on hb2);clear hb2 BE OE e4 hy p0 ix;obtain⟨r,hr⟩:∃ r,m.any (uW (c,d) kS y)=r:=⟨_,rfl⟩;rw [hr];rw [hr] at FS;clear hr;cases r
   ·go_wp2
    go_roundw
    case rel=>exact⟨q+1,by omega,by go_num,B2.out,by
     rw [FS.out];simpa using O2.out⟩
    case measure=>simp [intOf]; omega
   ·have x_:=X5.out;obtain⟨x0,x1,x2,x3,x4,x5,x6⟩:=x_.mP;have NB:=J (fT w2 (aF #[K O y,K O k0,K O c,K O d,K O xc,K O xd,D po pn pc,D ao an ac] 58));have hlit:=gH DI w2 [puX k0 (c,d) (xc,xd) (po,pn,pc) (ao,an,ac) y] 1 rfl (by simp) #[K O y,K O k0,K O c,K O d,K O xc,K O xd,D po pn pc,D ao an ac] rfl;have o2:=dh O2.out NB.out;have hB:W.heap.size<=(w2.alloc (aF #[K O y,K O k0,K O c,K O d,K O xc,K O xd,D po pn pc,D ao an ac] 58)).heap.size:=by have h1:=B2.out.size; simp; omega
    obtain⟨v',w',r',o',gr⟩:=fO DI W.heap.size o2 (Row.dn hlit) (by
     rw [aY];have h1:=aQ (fun n=>m.any (uW (c,d) kS n)) (near.take q);rw [aM] at h1;omega) (by simp) hB 44
    have r':(Builtin.append_ #[44,44] 44 #[u9,D (aA ⟨w2.heap.size,0,X⟩) 1 1]).run Y (w2.alloc (aF #[K O y,K O k0,K O c,K O d,K O xc,K O xd,D po pn pc,D ao an ac] 58))=.ok v' w':=by
     simpa [EU,puX] using r'
    have BG:=J ((B2.out.trans (NB.out.mono B2.out.size)).grown gr hB fun j hj=>(o2.lt j hj).1);have OG:=J o';clear hlit o2 hB o' gr O2 x_;go_wp2_with (first | (at_builtin; refine wpList_append_run rfl _ _ 44 rfl rfl rfl r' ?_) | fail)
    go_roundw
    case rel=>exact⟨q+1,by omega,by go_num,BG.out,by
     rw [FS.out];simpa using OG.out⟩
    case measure=>simp [intOf]; omega
  ·obtain rfl:nn=q:=by omega
   have e:near.take nn=near:=aD (by have:=HNN.out; omega);rw [e] at OE;clear e;have HF:=J (fun v11 v12 v14 v39 v40 v41 v42 v43 v44 v45 v46 v47 v48 v49 v50 v51 v52 v53 v54 v55 v56 v57 v58 v59 v60 v61 v62 v63 v64 v65 v66 v67 v68 v69 v70 v71 v72 v73 v74 v75 v76 v77 v78 v79=>HQ.out wr _ v11 v12 v14 v39 v40 v41 v42 v43 v44 v45 v46 v47 v48 v49 v50 v51 v52 v53 v54 v55 v56 v57 v58 v59 v60 v61 v62 v63 v64 v65 v66 v67 v68 v69 v70 v71 v72 v73 v74 v75 v76 v77 v78 v79 BE.out OE.out);clear HQ;go_wp2;exact HF.out _ _ _ _ _ _ _ _ _ _ _ _ _ _ _ _ _ _ _ _ _ _ _ _ _ _ _ _ _ _ _ _ _ _ _ _ _ _ _ _ _ _ _ _
noncomputable def acF:Code:=((Tryz.f12.body.bind (gV 6)).getD .skip)
theorem R7 (Q:Exit->Act->aB->Prop) (W:aB) (b3 b5:Nat) (k0 c d xc xd n:Int) (po ao so:Option aZ) (pn pc an ac sn sc:Nat) (l:List qy) (m:List Ow) (kS:List An) (u0 u1 u2 u4 u6 u7 u8 u9 u10 u11 u12 u13 u14 u15 u18 u19 u20 u21 u22 u23 u24 u25 u26 u27 u28 u29 u30 u31 u32 u33 u34 u35 u36 u37 u38 u39 u40 u41 u42 u43 u44 u45 u46 u47 u48 u49 u50 u51 u52 u53 u54 u55 u56 u57 u58 u59 u60 u61 u62 u63 u64 u65 u66 u67 u68 u69 u70 u71 u72 u73 u74 u75 u76 u77 u78 u79 u80 u81 u82 u83 u87 u88 u89 u90 u91 u92 u93 u94 u95 u96 u97 u98 u99 u100 u101 u102 u103 u104 u105 u106 u107 u108 u109 u110 u111 u112 u113 u114 u115 u116 u117 u118:aK)
  (h5:dG W b5 #[K O k0,K O c,K O d,K O xc,K O xd,D po pn pc,D ao an ac] 43) (hs:Fx W (D so sn sc) l) (hn:l.length=sn) (hu:dX (Az W) l m) (hok:∀ e∈m,dM e.p) (hl:mF W (D ao an ac) kS) (hlen:kS.length<=100)
  (hQ:∀ (wr:aB) (v19 v86 v87 v88 v89 v90 v91 v92 v93 v94 v95 v96 v97 v98 v99 v100 v101 v102 v103 v104 v105:aK),Below W.heap.size W wr->Q .normal ⟨(u0::u1::u2::aj (aA ⟨b3,0,X⟩)::u4::aj (aA ⟨b5,0,X⟩)::u6::u7::u8::u9::u10::u11::u12::u13::u14::u15::K O n::aO (m.any (uX kS n))::u18::v19::u20::u21::u22::u23::u24::u25::u26::u27::u28::u29::u30::u31::u32::u33::u34::u35::u36::u37::u38::u39::u40::u41::u42::u43::u44::u45::u46::u47::u48::u49::u50::u51::u52::u53::u54::u55::u56::u57::u58::u59::u60::u61::u62::u63::u64::u65::u66::u67::u68::u69::u70::u71::u72::u73::u74::u75::u76::u77::u78::u79::u80::u81::u82::u83::D so sn sc::K O (sn:Int)::v86::v87::v88::v89::v90::v91::v92::v93::v94::v95::v96::v97::v98::v99::v100::v101::v102::v103::v104::v105::u106::u107::u108::u109::u110::u111::u112::u113::u114::u115::u116::u117::u118::[]).toArray,[]⟩ wr) :
  Code.wp Y acF Q ⟨(u0::u1::u2::aj (aA ⟨b3,0,X⟩)::u4::aj (aA ⟨b5,0,X⟩)::u6::u7::u8::u9::u10::u11::u12::u13::u14::u15::K O n::aO ay::u18::u19::u20::u21::u22::u23::u24::u25::u26::u27::u28::u29::u30::u31::u32::u33::u34::u35::u36::u37::u38::u39::u40::u41::u42::u43::u44::u45::u46::u47::u48::u49::u50::u51::u52::u53::u54::u55::u56::u57::u58::u59::u60::u61::u62::u63::u64::u65::u66::u67::u68::u69::u70::u71::u72::u73::u74::u75::u76::u77::u78::u79::u80::u81::u82::u83::D so sn sc::K O (sn:Int)::K O 0::u87::u88::u89::u90::u91::u92::u93::u94::u95::u96::u97::u98::u99::u100::u101::u102::u103::u104::u105::u106::u107::u108::u109::u110::u111::u112::u113::u114::u115::u116::u117::u118::[]).toArray,[]⟩ W:=by
 have HQ:=J hQ;have H5:=J h5;have HS:=J hs;have HN:=J hn;have HU:=J hu;have OK:=J hok;have HL:=J hl;have HM:=J hlen;have LM:=J (show sn<=bg from by rw [<- hn]; exact hs.most);clear hQ h5 hs hn hu hok hl hlen
 conv=>arg 2; whnf
 go_wp2
 go_loopw [17,86] (fun v i wr=>∃ k:Nat,k<=sn/\i=K O k/\v=aO ((m.take k).any (uX kS n))/\Below W.heap.size W wr) (fun _ i _=>sn-(intOf i).toNat)
 case atStart=>exact⟨0,aN _,rfl,rfl,aI _ _⟩
 case round =>
  obtain⟨k,hk,rfl,rfl,hbe⟩:=hrel;have BE:=J hbe;clear hbe;by_cases hlt:k<sn
  ·have lm:=LM.out;have hw3:IntKind.i64.wrap ((k:Int)+1)=(k:Int)+1:=aH _ (by unfold bg at lm; omega);clear lm;obtain⟨y,hy⟩:∃ y,l[k]?=aA y:=⟨_,V (by rw [HN.out]; exact hlt)⟩;obtain⟨p,ix,px⟩:=elW HS.out rfl HN.out hy;obtain⟨p0,p1,p2⟩:=px wr BE.out;obtain⟨e,hm,hin⟩:=oC HU.out k _ hy;have AS:=J (any_succ (f:=uX kS n) hm);obtain⟨r0,hr0⟩:∃ r,(m.take k).any (uX kS n)=r:=⟨_,rfl⟩;obtain⟨t,ht⟩:∃ r,rz e.p kS=r:=⟨_,rfl⟩;have CV:=J (fun W' (hb':Below W.heap.size W W')=>(K9 (dK y.2.2) (D ao an ac) e.p kS W' (hin.2.on hb') (HL.out.on hb') (OK.out _ (au hm)) HM.out));rw [ht] at CV;obtain⟨y1,y2,⟨yo,yn,yc⟩⟩:=y;simp only at p0 p1 p2 CV;have NB:=J (fT wr (aF #[K O y1,K O y2,D yo yn yc] 61));have x_:=(H5.out.on BE.out).on NB.out;have x6:=x_.cell 6;simp only [ak,Z,ah] at x6;have BF:=J (BE.out.trans (NB.out.mono BE.out.size));clear x_;obtain⟨r,hr⟩:∃ r,(y1 == n)=r:=⟨_,rfl⟩;have HV:=J (show uX kS n e=(r && t) by
    rw [<- hr,<- ht];unfold uX;rw [<- hin.1];by_cases g1:y1=n <;> simp [g1])
   rw [HV.out] at AS;rw [hr0];rw [hr0] at AS;clear px hy hr0 ht hm hin;cases r0
   ·cases r
    ·go_wp2
     go_roundw
     case rel=>exact⟨k+1,by omega,by go_num,by rw [AS.out]; rfl,BF.out⟩
     case measure=>simp [intOf]; omega
    ·have CW:=J (CV.out _ BF.out);clear CV;go_wp2_with fail;refine CW.out.mono ?_;rintro e3 w3 ⟨rfl,hb⟩;have BG:=J (BF.out.trans (hb.mono BF.out.size));clear CW hb x6 p0 p1 p2 ix;go_wp2
     go_roundw
     case rel=>exact⟨k+1,by omega,by go_num,by rw [AS.out]; rfl,BG.out⟩
     case measure=>simp [intOf]; omega
   ·go_wp2
    go_roundw
    case rel=>exact⟨k+1,by omega,by go_num,by rw [AS.out]; rfl,BF.out⟩
    case measure=>simp [intOf]; omega
  ·obtain rfl:k=sn:=by omega
   have e:m.take k=m:=aD (by have:=HN.out; have:=HU.out.len; omega);rw [e];clear e;have HF:=J (fun v19 v86 v87 v88 v89 v90 v91 v92 v93 v94 v95 v96 v97 v98 v99 v100 v101 v102 v103 v104 v105=>HQ.out wr v19 v86 v87 v88 v89 v90 v91 v92 v93 v94 v95 v96 v97 v98 v99 v100 v101 v102 v103 v104 v105 BE.out);clear HQ;go_wp2;exact HF.out _ _ _ _ _ _ _ _ _ _ _ _ _ _ _ _ _ _ _ _ _
noncomputable def acG:Code:=((Tryz.f12.body.bind (gV 4)).getD .skip)
theorem R8 (Q:Exit->Act->aB->Prop) (W:aB) (b3 b5:Nat) (k0 c d xc xd:Int) (po ao so:Option aZ) (pn pc an ac sn sc:Nat) (me:Int) (y1 y2 y3 y4:aK) (l:List qy) (m:List Ow) (kS:List An) (u0 u1 u2 u4 u6 u7 u8 u9 u10 u11 u12 u13 u14 u16 u17 u18 u19 u20 u21 u22 u23 u24 u25 u26 u27 u28 u29 u30 u31 u32 u33 u34 u35 u36 u37 u38 u39 u40 u41 u42 u43 u44 u45 u46 u47 u48 u49 u50 u51 u52 u53 u54 u55 u56 u57 u58 u59 u60 u61 u62 u63 u64 u65 u66 u67 u68 u69 u70 u71 u72 u73 u74 u75 u76 u77 u78 u79 u81 u82 u83 u84 u85 u86 u87 u88 u89 u90 u91 u92 u93 u94 u95 u96 u97 u98 u99 u100 u101 u102 u103 u104 u105 u106 u107 u108 u109 u110 u111 u112 u113 u114 u115 u116 u117 u118:aK)
  (h3:dG W b3 #[K O me,y1,y2,y3,y4,D so sn sc] 33) (h5:dG W b5 #[K O k0,K O c,K O d,K O xc,K O xd,D po pn pc,D ao an ac] 43) (hs:Fx W (D so sn sc) l) (hn:l.length=sn) (hu:dX (Az W) l m) (hok:∀ e∈m,dM e.p) (hl:mF W (D ao an ac) kS) (hlen:kS.length<=100)
  (hQ:∀ (wr:aB) (v15 v16 v17 v19 v80 v81 v82 v83 v84 v85 v86 v87 v88 v89 v90 v91 v92 v93 v94 v95 v96 v97 v98 v99 v100 v101 v102 v103 v104 v105 v106 v107 v108 v109 v110 v111 v112 v113 v114 v115 v116:aK),Below W.heap.size W wr->zl wr W.heap.size v15 ((uo.filter fun n=>m.any (uX kS n)).map (dlX (xc,xd) (ao,an,ac)))->Q .normal ⟨(u0::u1::u2::aj (aA ⟨b3,0,X⟩)::u4::aj (aA ⟨b5,0,X⟩)::u6::u7::u8::u9::u10::u11::u12::u13::u14::v15::v16::v17::u18::v19::u20::u21::u22::u23::u24::u25::u26::u27::u28::u29::u30::u31::u32::u33::u34::u35::u36::u37::u38::u39::u40::u41::u42::u43::u44::u45::u46::u47::u48::u49::u50::u51::u52::u53::u54::u55::u56::u57::u58::u59::u60::u61::u62::u63::u64::u65::u66::u67::u68::u69::u70::u71::u72::u73::u74::u75::u76::u77::u78::u79::v80::v81::v82::v83::v84::v85::v86::v87::v88::v89::v90::v91::v92::v93::v94::v95::v96::v97::v98::v99::v100::v101::v102::v103::v104::v105::v106::v107::v108::v109::v110::v111::v112::v113::v114::v115::v116::u117::u118::[]).toArray,[]⟩ wr) :
  Code.wp Y acG Q ⟨(u0::u1::u2::aj (aA ⟨b3,0,X⟩)::u4::aj (aA ⟨b5,0,X⟩)::u6::u7::u8::u9::u10::u11::u12::u13::u14::D X 0 0::u16::u17::u18::u19::u20::u21::u22::u23::u24::u25::u26::u27::u28::u29::u30::u31::u32::u33::u34::u35::u36::u37::u38::u39::u40::u41::u42::u43::u44::u45::u46::u47::u48::u49::u50::u51::u52::u53::u54::u55::u56::u57::u58::u59::u60::u61::u62::u63::u64::u65::u66::u67::u68::u69::u70::u71::u72::u73::u74::u75::u76::u77::u78::u79::K O 0::u81::u82::u83::u84::u85::u86::u87::u88::u89::u90::u91::u92::u93::u94::u95::u96::u97::u98::u99::u100::u101::u102::u103::u104::u105::u106::u107::u108::u109::u110::u111::u112::u113::u114::u115::u116::u117::u118::[]).toArray,[]⟩ W:=by
 have HQ:=J hQ;have H3:=J h3;have H5:=J h5;have HS:=J hs;have HN:=J hn;have HU:=J hu;have OK:=J hok;have HL:=J hl;have HM:=J hlen;clear hQ h3 h5 hs hn hu hok hl hlen
 conv=>arg 2; whnf
 go_wp2
 go_loopw [15,80] (fun v i wr=>∃ q:Nat,q<=32/\i=K O q/\Below W.heap.size W wr/\zl wr W.heap.size v (((uo.take q).filter fun n=>m.any (uX kS n)).map (dlX (xc,xd) (ao,an,ac)))) (fun _ i _=>32-(intOf i).toNat)
 case atStart=>exact⟨0,aN _,rfl,aI _ _,fF _ _⟩
 case round =>
  obtain⟨q,hq,rfl,hbe,hown⟩:=hrel;have BE:=J hbe;have OE:=J hown;clear hbe hown;by_cases hlt:q<32
  ·have hy:uo[q]?=aA (q:Int):=by
    unfold uo;rw [List.getElem?_map,List.getElem?_range hlt]
    rfl
   have FS:=J (rJ uo q (q:Int) (fun n=>m.any (uX kS n)) hy);have hw3:IntKind.i64.wrap ((q:Int)+1)=(q:Int)+1:=aH _ (by omega);have e4:=(H3.out.on BE.out).cell 5;simp only [ak,Z,ah] at e4
   go_upto_block 6 with (fail)
   refine R7 _ wr b3 b5 k0 c d xc xd (q:Int) po ao so pn pc an ac sn sc l m kS _ _ _ _ _ _ _ _ _ _ _ _ _ _ _ _ _ _ _ _ _ _ _ _ _ _ _ _ _ _ _ _ _ _ _ _ _ _ _ _ _ _ _ _ _ _ _ _ _ _ _ _ _ _ _ _ _ _ _ _ _ _ _ _ _ _ _ _ _ _ _ _ _ _ _ _ _ _ _ _ _ _ _ _ _ _ _ _ _ _ _ _ _ _ _ _ _ _ _ _ _ _ _ _ _ _ _ _ _ _ _ _ (H5.out.on BE.out) (HS.out.on BE.out) HN.out (HU.out.mono fun _ _ h=>h.on BE.out) OK.out (HL.out.on BE.out) HM.out ?_;intro w2 v19 v86 v87 v88 v89 v90 v91 v92 v93 v94 v95 v96 v97 v98 v99 v100 v101 v102 v103 v104 v105 hb2;have B2:=J (BE.out.trans (hb2.mono BE.out.size));have O2:=J (dh OE.out hb2);have X5:=J ((H5.out.on BE.out).on hb2);clear hb2 BE OE e4 hy;obtain⟨r,hr⟩:∃ r,m.any (uX kS (q:Int))=r:=⟨_,rfl⟩;rw [hr];rw [hr] at FS;clear hr;cases r
   ·go_wp2
    go_roundw
    case rel=>exact⟨q+1,by omega,by go_num,B2.out,by
     rw [FS.out];simpa using O2.out⟩
    case measure=>simp [intOf]; omega
   ·have x_:=X5.out;have x3:=x_.cell 3;have x4:=x_.cell 4;have x6:=x_.cell 6;simp only [ak,Z,ah] at x3 x4 x6;have NB:=J (fT w2 (aF #[K O (q:Int),K O xc,K O xd,D ao an ac] 65));have hlit:=gH okG w2 [dlX (xc,xd) (ao,an,ac) (q:Int)] 1 rfl (by simp) #[K O (q:Int),K O xc,K O xd,D ao an ac] rfl;have o2:=dh O2.out NB.out;have hB:W.heap.size<=(w2.alloc (aF #[K O (q:Int),K O xc,K O xd,D ao an ac] 65)).heap.size:=by have h1:=B2.out.size; simp; omega
    obtain⟨v',w',r',o',gr⟩:=fO okG W.heap.size o2 (Row.dn hlit) (by
     rw [aY];have h1:=aQ (fun n=>m.any (uX kS n)) (uo.take q);rw [aM] at h1;omega) (by simp) hB 45
    have r':(Builtin.append_ #[45,45] 45 #[u15,D (aA ⟨w2.heap.size,0,X⟩) 1 1]).run Y (w2.alloc (aF #[K O (q:Int),K O xc,K O xd,D ao an ac] 65))=.ok v' w':=by
     simpa [EG,dlX] using r'
    have BG:=J ((B2.out.trans (NB.out.mono B2.out.size)).grown gr hB fun j hj=>(o2.lt j hj).1);have OG:=J o';clear hlit o2 hB o' gr O2 x_;go_wp2_with (first | (at_builtin; refine wpList_append_run rfl _ _ 45 rfl rfl rfl r' ?_) | fail)
    go_roundw
    case rel=>exact⟨q+1,by omega,by go_num,BG.out,by
     rw [FS.out];simpa using OG.out⟩
    case measure=>simp [intOf]; omega
  ·obtain rfl:q=32:=by omega
   have e:uo.take 32=uo:=aD (by simp [uo]);rw [e] at OE;clear e;have HF:=J (fun v16 v17 v19 v80 v81 v82 v83 v84 v85 v86 v87 v88 v89 v90 v91 v92 v93 v94 v95 v96 v97 v98 v99 v100 v101 v102 v103 v104 v105 v106 v107 v108 v109 v110 v111 v112 v113 v114 v115 v116=>HQ.out wr _ v16 v17 v19 v80 v81 v82 v83 v84 v85 v86 v87 v88 v89 v90 v91 v92 v93 v94 v95 v96 v97 v98 v99 v100 v101 v102 v103 v104 v105 v106 v107 v108 v109 v110 v111 v112 v113 v114 v115 v116 BE.out OE.out);clear HQ;go_wp2;exact HF.out _ _ _ _ _ _ _ _ _ _ _ _ _ _ _ _ _ _ _ _ _ _ _ _ _ _ _ _ _ _ _ _ _ _ _ _ _ _ _ _
end Bk
end Go.Proofs.YtkcfgbddlpomgaaGreat
