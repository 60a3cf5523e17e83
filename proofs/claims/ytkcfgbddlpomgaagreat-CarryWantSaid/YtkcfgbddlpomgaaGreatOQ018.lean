/-
  Rows of deliveries; . Conditions as told.
-/
import Derived.Test.YtkcfgbddlpomgaaGreatOQ013
import Derived.Test.YtkcfgbddlpomgaaGreatOQ015
import Derived.Test.YtkcfgbddlpomgaaGreatOQ017
import Derived.Deep.LoopGhost
set_option maxRecDepth 100000
set_option maxHeartbeats 64000000
open _root_.Bool renaming false->ay,true->aQ
open _root_.Go renaming cell_regrown->aj,bodyPost_ret->aC,World->aK,Value->aP,below_regrown->aS,Addr->bW,redrawn->cB
open Go.Act renaming put->bV
open Go.Builtin renaming append_->aX
open Go.IntKind renaming i64->U
open Go.IntWalk renaming i64_in->bI
open Go.Lib renaming hid->L
open Go.Obj renaming cells->Z
open Go.Operand renaming tmp->aG
open Go.Proofs.Tryz renaming prog->aH,results57->aO,results93->bH,results59->dh,results28->dx
open Go.Proofs.YtkcfgbddlpomgaaGreat.Rg renaming dD->aV,get_put->dw
open Go.Proofs.YtkcfgbddlpomgaaGreat.Rw.Row renaming dH->aM
open Go.RowKit.Below renaming heap_setCell->Y,refl->aA
open Go.Value renaming slice->J,int->O,bool->ah,pointer->ak,agg->aT
open _root_.Int renaming toNat_natCast->aY
open _root_.List renaming getElem?_eq_getElem->au,getElem?_toArray->aD,getElem?_cons_zero->aI,getElem?_cons_succ->aJ,length_map->aL,mem_of_getElem?->aR,length_append->aU,getElem?_eq_some_iff->aW,length_take->aZ,map_cons->bf,mem_append->bA,set_cons_succ->bF,setIfInBounds_toArray->bJ,mem_or_eq_of_mem_set->bK,getElem?_map->bL,map_toArray->bM,take_of_length_le->bN,mem_of_mem_take->bQ,mem_of_mem_drop->bR,getElem?_set_ne->bU,mem_singleton->bY,set_cons_zero->bZ,map_nil->cK,take_add_one->cO,length_drop->cZ,mem_cons->dB
open _root_.Nat renaming le_trans->aB,le_refl->aF,zero_le->bS,lt_of_le_of_lt->cu,mul_le_mul->dn
open _root_.Option renaming none->V,some->X
open Option.some renaming inj->bg
open _root_.Or renaming inr->aN,inl->bO
namespace Go.Proofs.YtkcfgbddlpomgaaGreat
namespace Bk
open Go.RowKit Go.Sort Rw YtkcfgbddlpomgaaGreat.Nm Pr Rl
abbrev FZ:=Int×Int×Int×Sl
abbrev yD (x:FZ):List aP:=[O U x.1,O U x.2.1,O U x.2.2.1,dU x.2.2.2]
abbrev adr (x:FZ):aP:=aT #[O U x.1,O U x.2.1,O U x.2.2.1,dU x.2.2.2]
def EG:Ek FZ:=⟨65,45,4,48,aT #[O U 0,O U 0,O U 0,J V 0 0],adr,yD⟩
theorem afj:(Tryz.prog.info? 65).map (fun i=>(i.zero,i.size,i.bytes))=X (X (aT #[O U 0,O U 0,O U 0,J V 0 0]),4,48):=by kernel_rfl
theorem afk (w:aK) (p:bW) (x:FZ) (h:∀ j u,(yD x)[j]?=X u->w.cell? (p.add j)=X u):(Instr.loadAt 65 (ak (X p))).run aH w=.ok (adr x) w:=by
 have h0:=h 0 _ rfl;have h1:=h 1 _ rfl;have h2:=h 2 _ rfl;have h3:=h 3 _ rfl;simp [Addr.add] at h0 h1 h2 h3;simp [go_sem,h0,h1,h2,h3]
theorem okG:EG.Ok where
 hu:=Tryz.underlying45
 info:=by
  have h:=afj;cases hi:Tryz.prog.info? 65 with
  | none=>rw [hi] at h; cases h
  | some i =>
   rw [hi] at h;simp only [Option.map_some,Option.some.injEq,Prod.mk.injEq] at h;exact⟨i,hi,h.1,h.2.1,h.2.2⟩
 zs:=rfl
 len:=fun _=>rfl
 one:=fun x u hu=>by
  simp only [EG,yD,dB,List.not_mem_nil,or_false] at hu;rcases hu with rfl|rfl|rfl|rfl <;> rfl
 pos:=by decide
 few:=by decide
 load:=fun w p x h=>afk w p x h
abbrev ah9 (W:aK) (v:aP) (l:List FZ):Prop:=Row EG W v l
abbrev IE (W:aK) (B:Nat) (v:aP) (l:List FZ):Prop:=Own EG W B v l
def pR (p:List C5) (l:List An):Bool:=xS (p.map YG) l
def IG (t:Id) (l:List An) (n:Int) (e:En):Bool:=decide (e.tree=t) && (decide (e.from_=n) && pR e.p l)
def sM (l:List An) (c:Int) (o:Ow):Bool:=decide (o.id.1=c) && pR o.p l
def toB (b:Br) (t:Id) (l:List An):List Int:=b.near.filter fun n=>b.ent.any (IG t l n)
def Qm:List Int:=(List.range 32).map fun (c:Nat)=>(c:Int)
def q8 (b:Br) (l:List An):List Int:=Qm.filter fun c=>b.own.any (sM l c)
def qO (b:Br) (f:Int) (t:Id) (l:List An):List Int×List Int :=
 match b.dQ.find? fun a=>decide (a.id=t) with
 | some a=>if a.par=f then (toB b t l,q8 b l) else ([],[])
 | none=>([],[])
abbrev eD (e:En):Id×Id:=(e.tree,e.sub)
theorem keys_eq {W:aK} {l:List iH} {m:List En} (h:eH (jd W) l m):l.map jc=m.map eD:=by
 induction h with
 | nil=>rfl
 | cons x t ih=>rw [bf,bf,ih,show jc _=eD _ from Prod.ext x.1 x.2.1]
def fG (b:Br) (e:En):Br×Bool:=match b.dQ[(fK (b.dQ.map Ad.id) e.tree).toNat]? with
 | none=>(b,ay)
 | some a=>if fK (b.dQ.map Ad.id) e.tree=-1 then (b,ay) else if iJ (b.ent.map eD) (eD e)≠-1 then (b,ay) else if e.from_≠-1/\e.from_=a.par then (b,ay) else
  ({ b with ent:=fV b.ent (eu (b.ent.map eD) (eD e)) { e with up:=decide (a.par≠-1) && !eY b.ent e.tree e.p } },decide (a.par≠-1) && !eY b.ent e.tree e.p)
theorem oZ (l:List (Id×Id)) (x:Id×Id):eu l x<=l.length:=by
 unfold eu;exact (List.takeWhile_sublist _).length_le
theorem nH {W:aK} {b:Nat} {c d g h f:Int} {p:Sl} {u:Bool} (hb:dN W b #[O U c,O U d,O U g,O U h,dU p,O U f,ah u] 68):∀ x,Below W.heap.size W x->∀ j v,(iR (c,d,g,h,p,f,u))[j]?=X v->x.cell? ((⟨b,0,V⟩:bW).add j)=X v:=by
 intro x hx j v hj;rw [lS,(hb.on hx).cell]
 match j with
 | 0=>exact hj
 | 1=>exact hj
 | 2=>exact hj
 | 3=>exact hj
 | 4=>exact hj
 | 5=>exact hj
 | 6=>exact hj
 | j+7=>simp at hj
theorem uN (b:Br) (nv av sv ev ov:Sl) (z:iH) (e:En) (w:aK) (es:List iH) (R:iH->En->Prop) (h_:iI w b nv av sv ev ov) (he1:kM w (dU ev) es) (he2:eH (jd w) es b.ent) (hr2:eH R es b.ent) (hrz:∀ u,R (z.1,z.2.1,z.2.2.1,z.2.2.2.1,z.2.2.2.2.1,z.2.2.2.2.2.1,u) { e with up:=u }) (hz:jd w z e) (l2:b.dQ.length<=900) (l3:b.ent.length<=900) (hok:∀ e∈b.ent,dW e.p) (hop:dW e.p) :
  Calls aH 57 #[mJ b.me nv av sv ev ov,qg z] w fun e' w'=>(∃ (ev':Sl) (xs:List iH),e'=.returned (.tuple #[mJ b.me nv av sv ev' ov,ah (fG b e).2])/\((ev'=ev/\xs=es/\(fG b e).1=b)\/iU w' w.heap.size (dU ev') xs)/\eH R xs (fG b e).1.ent)/\Below w.heap.size w w':=by
 obtain⟨no,nn,nc⟩:=nv;obtain⟨ao,an,ac⟩:=av;obtain⟨so,sn,sc⟩:=sv;obtain⟨eo,en,ec⟩:=ev;obtain⟨oo,eB,oc⟩:=ov;obtain⟨c,d,g,h,⟨po,pn,pc⟩,fr,up0⟩:=z;obtain⟨⟨tc,td⟩,⟨sg,sh⟩,p',fr',up'⟩:=e;obtain⟨hz1,hz2,hz3,hz4,hz5⟩:=hz;obtain⟨rfl,rfl⟩:c=tc/\d=td:=by simpa using hz1
 obtain⟨rfl,rfl⟩:g=sg/\h=sh:=by simpa using hz2
 obtain rfl:fr=fr':=hz3;obtain rfl:up0=up':=hz4;have HP:=L hz5;have HR2:=L hr2;have HRZ:=L hrz;clear hr2 hrz;obtain⟨xs,hx1,hx2⟩:=h_.dQ;have IDS:=L (zS hx2);have Yj:=L (keys_eq he2);have XL:=L (show xs.length<=900 by rw [hx2.len]; exact l2);have EL:=L (show es.length<=900 by rw [he2.len]; exact l3);have HA2:=L hx2;have HE2:=L he2;have OK:=L hok;have OP:=L hop;obtain⟨q1,q2,hq⟩:=hx1.len;obtain⟨rfl,rfl,rfl⟩:ao=q1/\an=xs.length/\ac=q2:=by
  have:J ao an ac=J q1 xs.length q2:=hq;simpa using this
 clear hq;obtain⟨q1,q2,hq⟩:=he1.len;obtain⟨rfl,rfl,rfl⟩:eo=q1/\en=es.length/\ec=q2:=by
  have:J eo en ec=J q1 es.length q2:=hq;simpa using this
 clear hq;have FD:=uF b.me (J no nn nc) (J eo es.length ec) (J so sn sc) (J oo eB oc) (ao,xs.length,ac) xs (c,d);have EN:=Am b.me (J no nn nc) (J ao xs.length ac) (J so sn sc) (J oo eB oc) (eo,es.length,ec) es (c,d) (g,h);have CV:=fun W hb'=>wK b.me (J no nn nc) (J ao xs.length ac) (J so sn sc) (J oo eB oc) (eo,es.length,ec) es b.ent (c,d) (J po pn pc) p' W (he1.on (show Below w.heap.size w W from hb')) (he2.mono fun _ _ h=>h.on hb') (hz5.on hb') hok hop;have HH:=L h_;obtain⟨h0,h1,h2,h3⟩:=gX w #[O U b.me,J no nn nc,J ao xs.length ac,J so sn sc,J eo es.length ec,J oo eB oc] #[O U c,O U d,O U g,O U h,J po pn pc,O U fr,ah up0] #[O U 0,J V 0 0,J V 0 0,J V 0 0,J V 0 0,J V 0 0] 33 68 33;obtain⟨n2,hn2⟩:∃ n,n=xs.length:=⟨_,rfl⟩;obtain⟨n3,Te⟩:∃ n,n=es.length:=⟨_,rfl⟩;simp only [<- hn2,<- Te] at h0 h1 h2 h3 hx1 he1 HH FD EN CV ⊢;have B0:=L h0;have X2:=L h1;have X3:=L h2;have X5:=L h3;have HS:=L hx1;have HE:=L he1;have N2:=L hn2;have N3:=L Te;obtain⟨me,hme⟩:∃ me,me=b.me:=⟨_,rfl⟩;simp only [<- hme] at X2 B0 X3 X5 FD EN CV ⊢;have EN:=L EN;have CV:=L CV;clear h0 h1 h2 h3 hx1 he1 hx2 he2 h_ hn2 Te l2 l3 hme hz1 hz2 hz5 hok hop;show Calls aH 57 #[aT #[O U me,J no nn nc,J ao n2 ac,J so sn sc,J eo n3 ec,J oo eB oc],aT #[O U c,O U d,O U g,O U h,J po pn pc,O U fr,ah up0]] w _;go_enter Tryz.func57,Tryz.ntmps57;go_upto_region 1 with fail;generalize (((w.alloc (Z #[O U me,J no nn nc,J ao n2 ac,J so sn sc,J eo n3 ec,J oo eB oc] 33)).alloc (Z #[O U c,O U d,O U g,O U h,J po pn pc,O U fr,ah up0] 68)).alloc (Z #[O U 0,J V 0 0,J V 0 0,J V 0 0,J V 0 0,J V 0 0] 33))=W at *;have SW:=L (FD W (HS.out.on B0.out));clear FD;have x_:=X2.out;have y_:=X3.out;obtain⟨x0,x1,x2,x3,x4,x5⟩:=x_.fB;obtain⟨y0,y1,y2,y3,y4,y5,y6⟩:=y_.oI;clear x_ y_;go_wp2_with fail;refine SW.out.mono ?_;rintro e1 w1 ⟨rfl,hb⟩;have B1:=L (B0.out.trans (hb.mono B0.out.size));have Y2:=L (X2.out.on hb);have Y3:=L (X3.out.on hb);have Y5:=L (X5.out.on hb);clear SW hb X2 X3 X5 x0 x1 x2 x3 x4 x5 y0 y1 y2 y3 y4 y5 y6;have a0:=aj (show w1.cell? ⟨w.heap.size,0,V⟩=X (O U me) from Y2.out.cell 0);have a1:=aj (show w1.cell? ⟨w.heap.size,1,V⟩=X (J no nn nc) from Y2.out.cell 1);have a2:=aj (show w1.cell? ⟨w.heap.size,2,V⟩=X (J ao n2 ac) from Y2.out.cell 2);have a3:=aj (show w1.cell? ⟨w.heap.size,3,V⟩=X (J so sn sc) from Y2.out.cell 3);have a4:=aj (show w1.cell? ⟨w.heap.size,4,V⟩=X (J eo n3 ec) from Y2.out.cell 4);have a5:=aj (show w1.cell? ⟨w.heap.size,5,V⟩=X (J oo eB oc) from Y2.out.cell 5);have b0:=aj (show w1.cell? ⟨w.heap.size+1,0,V⟩=X (O U c) from Y3.out.cell 0);have b1:=aj (show w1.cell? ⟨w.heap.size+1,1,V⟩=X (O U d) from Y3.out.cell 1);have b2:=aj (show w1.cell? ⟨w.heap.size+1,2,V⟩=X (O U g) from Y3.out.cell 2);have b3:=aj (show w1.cell? ⟨w.heap.size+1,3,V⟩=X (O U h) from Y3.out.cell 3);have b4:=aj (show w1.cell? ⟨w.heap.size+1,4,V⟩=X (J po pn pc) from Y3.out.cell 4);have b5:=aj (show w1.cell? ⟨w.heap.size+1,5,V⟩=X (O U fr) from Y3.out.cell 5);have b6:=aj (show w1.cell? ⟨w.heap.size+1,6,V⟩=X (ah up0) from Y3.out.cell 6);have CE:=L (fun d os=>Calls.regrown_of (d:=d) (os:=os) (EN.out _ ((HE.out.on B1.out).on (aS w1 d os))));clear EN;rcases MW xs (c,d) with hf|⟨k,y,hf,hy⟩
 ·have LB:=L (show fG b ⟨(c,d),(g,h),p',fr,up0⟩=(b,ay) by
   have hf':=hf;rw [IDS.out] at hf';unfold fG;simp only;rw [hf']
   split
   ·rfl
   ·rw [if_pos rfl])
  rw [hf];clear hf;go_upto_region 2 with fail;refine wp_region_quiet_below (by kernel_rfl) (by kernel_rfl) ?_
  repeat (go_big_quiet_step (fail))
  refine wpQuiet_nil ?_;intro _ hw';obtain⟨⟨dq,osq⟩,hw''⟩:=hw';subst hw'';have Z6:=aS w1 dq osq;have B2:=L (B1.out.trans (Z6.mono B1.out.size));have Z2:=L (Y2.out.on Z6);have Z3:=L (Y3.out.on Z6);have Z5:=L (Y5.out.on Z6);clear Z6 B1 Y2 Y3 Y5 a0 a1 a2 a3 a4 a5 b0 b1 b2 b3 b4 b5 b6;generalize grow (cB w1 dq) osq=w2 at *;have FB:=L (dM Z5.out (O U me) (J no nn nc) (J ao n2 ac) (J so sn sc) (J eo n3 ec) (J oo eB oc));have BL:=L (dI (b:=w.heap.size+1+1) B2.out (by omega) (O U me) (J no nn nc) (J ao n2 ac) (J so sn sc) (J eo n3 ec) (J oo eB oc));have uW:=Z2.out;have qL:=Z5.out;obtain⟨x0,x1,x2,x3,x4,x5⟩:=uW.fB;obtain⟨r0,r1,r2,r3,r4,r5⟩:=qL.fB;obtain⟨t0,t1,t2,t3,t4,t5⟩:=qL.kJ;have zz:=qL.lt;clear uW qL;go_wp2_with fail;obtain⟨v0,v1,v2,v3,v4,v5⟩:=FB.out.fB;refine aC (v:=.tuple #[aT #[O U me,J no nn nc,J ao n2 ac,J so sn sc,J eo n3 ec,J oo eB oc],ah ay]) (by simp [results,aO,go_sem,v0,v1,v2,v3,v4,v5]) rfl ?_;rw [LB.out];exact⟨⟨(eo,n3,ec),es,rfl,bO ⟨rfl,rfl,rfl⟩,HR2.out⟩,BL.out⟩
 ·have HF:=L hf;have HY:=L hy;have hk:=(aW.1 hy).1;have XL2:=XL.out;have hkn:k<n2:=by rw [N2.out]; exact hk
  obtain⟨p,ix,px⟩:=Yh HS.out rfl N2.out.symm hy;obtain⟨z1,z2,⟨zo,zn,zc⟩,par⟩:=y;have PX:=L px;have pr:=aj (show w1.cell? ⟨p.block,p.off+3,V⟩=X (O U par) from (px w1 B1.out).2.2.2);obtain⟨a,hak⟩:∃ a,b.dQ[k]?=X a:=⟨_,au (by rw [<- HA2.out.len]; exact hk)⟩;have hap:a.par=par:=by
   obtain⟨z,hz1,hz2⟩:=HA2.out.at k a hak;rw [HY.out] at hz1;obtain rfl:=bg hz1;exact hz2.2.1.symm
  have LA:=L (show ∀ i,iJ (es.map jc) ((c,d),(g,h))=i->fG b ⟨(c,d),(g,h),p',fr,up0⟩=if i≠-1 then (b,ay) else if fr≠-1/\fr=par then (b,ay) else ({ b with ent:=fV b.ent (eu (b.ent.map eD) ((c,d),(g,h))) ⟨(c,d),(g,h),p',fr,decide (par≠-1) && !eY b.ent (c,d) p'⟩ },decide (par≠-1) && !eY b.ent (c,d) p') from fun i hi=>by
   have hf':=HF.out;rw [IDS.out] at hf';rw [Yj.out] at hi;unfold fG;simp only;rw [hf',aY,hak];simp only;rw [if_neg (by omega),hap,hi])
  have hik:decide ((k:Int)<0)=ay:=decide_eq_false (by omega);rw [hf];clear hf hy px hak hap HF HY;rcases lG (es.map jc) ((c,d),(g,h)) with he|⟨j,he,_⟩
  ·have LC:=LA.out _ he;rw [if_neg (by simp)] at LC;rw [he] at CE;clear LA he;obtain⟨f1,hf1⟩:∃ r,(fr != -1)=r:=⟨_,rfl⟩;obtain⟨f2,hf2⟩:∃ r,(fr == par)=r:=⟨_,rfl⟩;have F1:=L hf1;have F2_:=L hf2;cases f1
   ·have LD:=LC;rw [if_neg (by exact fun q=>q.1 (by simpa using hf1))] at LD;clear LC;go_upto_region 2 with fail;refine wp_region_quiet_below (by kernel_rfl) (by kernel_rfl) ?_
    repeat (go_big_quiet_step (first | (with_reducible exact CE.out _ _)))
    refine wpQuiet_nil ?_;intro _ hw';obtain⟨⟨dq,osq⟩,hw''⟩:=hw';subst hw'';have Z6:=aS w1 dq osq;have B2:=L (B1.out.trans (Z6.mono B1.out.size));have Z2:=L (Y2.out.on Z6);have Z3:=L (Y3.out.on Z6);have Z5:=L (Y5.out.on Z6);clear Z6 B1 Y2 Y3 Y5 a0 a1 a2 a3 a4 a5 b0 b1 b2 b3 b4 b5 b6;generalize grow (cB w1 dq) osq=w2 at *;have p3b:=(PX.out w2 B2.out).2.2.2;have x_:=Z2.out;have y_:=Z3.out;obtain⟨x0,x1,x2,x3,x4,x5⟩:=x_.fB;obtain⟨y0,y1,y2,y3,y4,y5,y6⟩:=y_.oI;clear x_ y_;obtain⟨g1,hg1⟩:∃ r,(par != -1)=r:=⟨_,rfl⟩;have GP:=L (show decide (par≠-1)=g1 by rw [<- hg1]; by_cases q:par=-1 <;> simp [q]);rw [GP.out] at LD;cases g1
    ·have LB:=L LD;clear LD CV;have B3:=L B2.out;have F2:=L Z2.out;have F3:=L Z3.out;have F5:=L Z5.out;clear B2 Z2 Z3 Z5;have f3:=F3.out;obtain⟨k0,k1,k2,k3,k4,k5,k6⟩:=f3.oI;have f36:=f3.fr 6;have Ur:=f3.lt;clear f3;go_upto_region 5 with fail;clear k0 k1 k2 k3 k4 k5 k6 f36 Ur;have G3:=L (show dN _ _ #[O U c,O U d,O U g,O U h,J po pn pc,O U fr,ah ay] _ from by simpa using dR (k:=6) F3.out (ah ay));have G2:=L (show dN _ _ _ _ from (Y w2 ⟨w.heap.size+1,6,V⟩ (ah ay) _ (show w.heap.size≠w.heap.size+1 by omega)).trans F2.out);have G5:=L (show dN _ _ _ _ from (Y w2 ⟨w.heap.size+1,6,V⟩ (ah ay) _ (show w.heap.size+1+1≠w.heap.size+1 by omega)).trans F5.out);have B4:=L (B3.out.setCell (p:=⟨w.heap.size+1,6,V⟩) (by show w.heap.size<=w.heap.size+1; omega) (ah ay));clear B3 F2 F3 F5;generalize w2.setCell ⟨w.heap.size+1,6,V⟩ (ah ay)=w4 at *;have R4:=L (HE.out.on B4.out)
     go_upto_block 0 with (fail)
     refine yu _ w4 w.heap.size (w.heap.size+1) me c d g h _ _ _ _ _ _ _ eo n3 ec es _ _ _ _ _ _ _ _ _ _ _ _ _ _ _ _ _ _ _ _ _ _ _ _ _ _ _ _ _ _ _ _ _ _ _ _ _ _ _ _ _ _ _ _ _ _ _ _ _ _ _ _ _ _ _ _ _ _ _ _ _ _ _ _ _ _ _ _ _ _ _ _ _ _ _ _ _ _ _ _ _ _ _ _ _ _ _ _ _ _ _ _ _ _ _ _ _ _ _ _ _ _ _ _ _ _ _ _ _ _ _ _ G2.out G3.out R4.out N3.out (by have:=EL.out; have:=N3.out; omega) ?_;intro wr v57 v58 v59 v60 v61 v62 v63 v64 v65 v66 v67 v68 v69 v70 v71 v72 v73 v74 v75 v76 v77 v78 v79 v80 v81 v82 v83 v84 v85 v86 v87 v88 v89 v90 v91 v92 v93 v94 v95 v96 hb;have B5:=L (B4.out.trans (hb.mono B4.out.size));have K2:=L (G2.out.on hb);have K3:=L (G3.out.on hb);have K5:=L (G5.out.on hb);have R5:=L (R4.out.on hb);clear hb B4 G2 G3 G5 R4;go_upto_region 8 with fail;refine PI _ wr w.heap.size (w.heap.size+1) me _ _ _ _ eo n3 ec (eu (es.map jc) ((c,d),(g,h))) es (c,d,g,h,(po,pn,pc),fr,ay) _ _ _ _ _ _ _ _ _ _ _ _ _ _ _ _ _ _ _ _ _ _ _ _ _ _ _ _ _ _ _ _ _ _ _ _ _ _ _ _ _ _ _ _ _ _ _ _ _ _ _ _ _ _ _ _ _ _ _ _ _ _ _ _ _ _ _ _ _ _ _ _ _ _ _ _ _ _ _ _ _ _ _ _ _ _ _ _ _ _ _ _ _ _ _ _ _ _ _ _ _ _ _ _ _ _ _ _ _ _ _ _ K2.out (nH (p:=(po,pn,pc)) K3.out) R5.out (by have:=oZ (es.map jc) ((c,d),(g,h)); rw [aL] at this; exact this) EL.out ?_;intro xw v97 v98 v99 v100 v101 v102 v103 v104 v105 v106 v107 v108 v109 v110 v111 hbx ho hbl hoth hblk;obtain⟨nD,nG,zT⟩:=(aM ho).len;obtain⟨tl,htl⟩:∃ n,n=(es.take (eu (es.map jc) ((c,d),(g,h)))++[(c,d,g,h,(po,pn,pc),fr,ay)]++es.drop (eu (es.map jc) ((c,d),(g,h)))).length:=⟨_,rfl⟩;rw [<- htl] at zT;subst zT;have B6:=L (B5.out.trans (hbl _ (aF _)));have M2:=hbx;have M3:=hoth _ _ _ (by omega) K3.out;have M5:=hoth _ _ _ (by omega) K5.out;have OE:=L (dJ ho (show w.heap.size+3<=wr.heap.size by have:=K5.out.lt; omega));clear ho hbl hoth hblk htl hbx B5 K2 K3 K5 R5;go_upto_region 9 with fail;refine yj _ xw w.heap.size (w.heap.size+1) (w.heap.size+1+1) me no ao so nD oo nn nc n2 ac sn sc tl nG eB oc _ _ _ _ _ _ _ _ _ _ _ _ ay _ _ _ _ _ _ _ _ _ _ _ _ _ _ _ _ _ _ _ _ _ _ _ _ _ _ _ _ _ _ _ _ _ _ _ _ _ _ _ _ _ _ _ _ _ _ _ _ _ _ _ _ _ _ _ _ _ _ _ _ _ _ _ _ _ _ _ _ _ _ _ _ _ _ _ _ _ _ _ _ _ _ _ _ _ _ _ _ _ _ _ _ _ _ _ _ _ _ _ _ _ _ _ _ _ _ _ _ _ _ _ _ M2 M3 M5 (by omega) ?_;intro a9 x9 II h49 h59 Us;subst Us;have FB:=L (dM M5.drew (O U me) (J no nn nc) (J ao n2 ac) (J so sn sc) (J nD tl nG) (J oo eB oc));have BL:=L (dI (b:=w.heap.size+1+1) B6.out.drew (by omega) (O U me) (J no nn nc) (J ao n2 ac) (J so sn sc) (J nD tl nG) (J oo eB oc));have FE:=L (fC (dG OE.out ((aA xw.heap.size xw).drew)) (w.heap.size+1+1) (by omega) (O U me) (J no nn nc) (J ao n2 ac) (J so sn sc) (J nD tl nG) (J oo eB oc));clear OE M2 M3 M5 B6;simp only [Exit.then]
     apply_assumption
     go_wp2_with fail;obtain⟨v0,v1,v2,v3,v4,v5⟩:=FB.out.fB;refine aC (v:=.tuple #[aT #[O U me,J no nn nc,J ao n2 ac,J so sn sc,J nD tl nG,J oo eB oc],ah ay]) (by simp [results,aO,go_sem,h49,h59,v0,v1,v2,v3,v4,v5]) II ?_;rw [LB.out];refine⟨⟨(nD,tl,nG),_,rfl,aN (dJ FE.out (show w.heap.size<=w.heap.size+3 by omega)),?_⟩,BL.out⟩;rw [<- Yj.out];exact ((HR2.out.take _).append (.cons (HRZ.out _) .nil)).append (HR2.out.drop _)
    ·have CW:=L (CV.out w2 B2.out);obtain⟨cv,hcv⟩:∃ r,eY b.ent (c,d) p'=r:=⟨_,rfl⟩;rw [hcv] at CW LD;clear CV hcv;go_wp2_with fail;refine CW.out.mono ?_;rintro e3 w3 ⟨rfl,hb⟩;have B3:=L (B2.out.trans (hb.mono B2.out.size));have F2:=L (Z2.out.on hb);have F3:=L (Z3.out.on hb);have F5:=L (Z5.out.on hb);clear hb CW B2 Z2 Z3 Z5 x0 x1 x2 x3 x4 x5 y0 y1 y2 y3 y4 y5 y6 p3b;cases cv
     ·have LB:=L LD;clear LD;have f3:=F3.out;obtain⟨k0,k1,k2,k3,k4,k5,k6⟩:=f3.oI;have f36:=f3.fr 6;have Ur:=f3.lt;clear f3;go_upto_region 5 with fail;clear k0 k1 k2 k3 k4 k5 k6 f36 Ur;have G3:=L (show dN _ _ #[O U c,O U d,O U g,O U h,J po pn pc,O U fr,ah aQ] _ from by simpa using dR (k:=6) F3.out (ah aQ));have G2:=L (show dN _ _ _ _ from (Y w3 ⟨w.heap.size+1,6,V⟩ (ah aQ) _ (show w.heap.size≠w.heap.size+1 by omega)).trans F2.out);have G5:=L (show dN _ _ _ _ from (Y w3 ⟨w.heap.size+1,6,V⟩ (ah aQ) _ (show w.heap.size+1+1≠w.heap.size+1 by omega)).trans F5.out);have B4:=L (B3.out.setCell (p:=⟨w.heap.size+1,6,V⟩) (by show w.heap.size<=w.heap.size+1; omega) (ah aQ));clear B3 F2 F3 F5;generalize w3.setCell ⟨w.heap.size+1,6,V⟩ (ah aQ)=w4 at *;have R4:=L (HE.out.on B4.out)
      go_upto_block 0 with (fail)
      refine yu _ w4 w.heap.size (w.heap.size+1) me c d g h _ _ _ _ _ _ _ eo n3 ec es _ _ _ _ _ _ _ _ _ _ _ _ _ _ _ _ _ _ _ _ _ _ _ _ _ _ _ _ _ _ _ _ _ _ _ _ _ _ _ _ _ _ _ _ _ _ _ _ _ _ _ _ _ _ _ _ _ _ _ _ _ _ _ _ _ _ _ _ _ _ _ _ _ _ _ _ _ _ _ _ _ _ _ _ _ _ _ _ _ _ _ _ _ _ _ _ _ _ _ _ _ _ _ _ _ _ _ _ _ _ _ _ G2.out G3.out R4.out N3.out (by have:=EL.out; have:=N3.out; omega) ?_;intro wr v57 v58 v59 v60 v61 v62 v63 v64 v65 v66 v67 v68 v69 v70 v71 v72 v73 v74 v75 v76 v77 v78 v79 v80 v81 v82 v83 v84 v85 v86 v87 v88 v89 v90 v91 v92 v93 v94 v95 v96 hb;have B5:=L (B4.out.trans (hb.mono B4.out.size));have K2:=L (G2.out.on hb);have K3:=L (G3.out.on hb);have K5:=L (G5.out.on hb);have R5:=L (R4.out.on hb);clear hb B4 G2 G3 G5 R4;go_upto_region 8 with fail;refine PI _ wr w.heap.size (w.heap.size+1) me _ _ _ _ eo n3 ec (eu (es.map jc) ((c,d),(g,h))) es (c,d,g,h,(po,pn,pc),fr,aQ) _ _ _ _ _ _ _ _ _ _ _ _ _ _ _ _ _ _ _ _ _ _ _ _ _ _ _ _ _ _ _ _ _ _ _ _ _ _ _ _ _ _ _ _ _ _ _ _ _ _ _ _ _ _ _ _ _ _ _ _ _ _ _ _ _ _ _ _ _ _ _ _ _ _ _ _ _ _ _ _ _ _ _ _ _ _ _ _ _ _ _ _ _ _ _ _ _ _ _ _ _ _ _ _ _ _ _ _ _ _ _ _ K2.out (nH (p:=(po,pn,pc)) K3.out) R5.out (by have:=oZ (es.map jc) ((c,d),(g,h)); rw [aL] at this; exact this) EL.out ?_;intro xw v97 v98 v99 v100 v101 v102 v103 v104 v105 v106 v107 v108 v109 v110 v111 hbx ho hbl hoth hblk;obtain⟨nD,nG,zT⟩:=(aM ho).len;obtain⟨tl,htl⟩:∃ n,n=(es.take (eu (es.map jc) ((c,d),(g,h)))++[(c,d,g,h,(po,pn,pc),fr,aQ)]++es.drop (eu (es.map jc) ((c,d),(g,h)))).length:=⟨_,rfl⟩;rw [<- htl] at zT;subst zT;have B6:=L (B5.out.trans (hbl _ (aF _)));have M2:=hbx;have M3:=hoth _ _ _ (by omega) K3.out;have M5:=hoth _ _ _ (by omega) K5.out;have OE:=L (dJ ho (show w.heap.size+3<=wr.heap.size by have:=K5.out.lt; omega));clear ho hbl hoth hblk htl hbx B5 K2 K3 K5 R5;go_upto_region 9 with fail;refine yj _ xw w.heap.size (w.heap.size+1) (w.heap.size+1+1) me no ao so nD oo nn nc n2 ac sn sc tl nG eB oc _ _ _ _ _ _ _ _ _ _ _ _ aQ _ _ _ _ _ _ _ _ _ _ _ _ _ _ _ _ _ _ _ _ _ _ _ _ _ _ _ _ _ _ _ _ _ _ _ _ _ _ _ _ _ _ _ _ _ _ _ _ _ _ _ _ _ _ _ _ _ _ _ _ _ _ _ _ _ _ _ _ _ _ _ _ _ _ _ _ _ _ _ _ _ _ _ _ _ _ _ _ _ _ _ _ _ _ _ _ _ _ _ _ _ _ _ _ _ _ _ _ _ _ _ _ M2 M3 M5 (by omega) ?_;intro a9 x9 II h49 h59 Us;subst Us;have FB:=L (dM M5.drew (O U me) (J no nn nc) (J ao n2 ac) (J so sn sc) (J nD tl nG) (J oo eB oc));have BL:=L (dI (b:=w.heap.size+1+1) B6.out.drew (by omega) (O U me) (J no nn nc) (J ao n2 ac) (J so sn sc) (J nD tl nG) (J oo eB oc));have FE:=L (fC (dG OE.out ((aA xw.heap.size xw).drew)) (w.heap.size+1+1) (by omega) (O U me) (J no nn nc) (J ao n2 ac) (J so sn sc) (J nD tl nG) (J oo eB oc));clear OE M2 M3 M5 B6;simp only [Exit.then]
      apply_assumption
      go_wp2_with fail;obtain⟨v0,v1,v2,v3,v4,v5⟩:=FB.out.fB;refine aC (v:=.tuple #[aT #[O U me,J no nn nc,J ao n2 ac,J so sn sc,J nD tl nG,J oo eB oc],ah aQ]) (by simp [results,aO,go_sem,h49,h59,v0,v1,v2,v3,v4,v5]) II ?_;rw [LB.out];refine⟨⟨(nD,tl,nG),_,rfl,aN (dJ FE.out (show w.heap.size<=w.heap.size+3 by omega)),?_⟩,BL.out⟩;rw [<- Yj.out];exact ((HR2.out.take _).append (.cons (HRZ.out _) .nil)).append (HR2.out.drop _)
     ·have LB:=L LD;clear LD;have f3:=F3.out;obtain⟨k0,k1,k2,k3,k4,k5,k6⟩:=f3.oI;have f36:=f3.fr 6;have Ur:=f3.lt;clear f3;go_upto_region 5 with fail;clear k0 k1 k2 k3 k4 k5 k6 f36 Ur;have G3:=L (show dN _ _ #[O U c,O U d,O U g,O U h,J po pn pc,O U fr,ah ay] _ from by simpa using dR (k:=6) F3.out (ah ay));have G2:=L (show dN _ _ _ _ from (Y w3 ⟨w.heap.size+1,6,V⟩ (ah ay) _ (show w.heap.size≠w.heap.size+1 by omega)).trans F2.out);have G5:=L (show dN _ _ _ _ from (Y w3 ⟨w.heap.size+1,6,V⟩ (ah ay) _ (show w.heap.size+1+1≠w.heap.size+1 by omega)).trans F5.out);have B4:=L (B3.out.setCell (p:=⟨w.heap.size+1,6,V⟩) (by show w.heap.size<=w.heap.size+1; omega) (ah ay));clear B3 F2 F3 F5;generalize w3.setCell ⟨w.heap.size+1,6,V⟩ (ah ay)=w4 at *;have R4:=L (HE.out.on B4.out)
      go_upto_block 0 with (fail)
      refine yu _ w4 w.heap.size (w.heap.size+1) me c d g h _ _ _ _ _ _ _ eo n3 ec es _ _ _ _ _ _ _ _ _ _ _ _ _ _ _ _ _ _ _ _ _ _ _ _ _ _ _ _ _ _ _ _ _ _ _ _ _ _ _ _ _ _ _ _ _ _ _ _ _ _ _ _ _ _ _ _ _ _ _ _ _ _ _ _ _ _ _ _ _ _ _ _ _ _ _ _ _ _ _ _ _ _ _ _ _ _ _ _ _ _ _ _ _ _ _ _ _ _ _ _ _ _ _ _ _ _ _ _ _ _ _ _ G2.out G3.out R4.out N3.out (by have:=EL.out; have:=N3.out; omega) ?_;intro wr v57 v58 v59 v60 v61 v62 v63 v64 v65 v66 v67 v68 v69 v70 v71 v72 v73 v74 v75 v76 v77 v78 v79 v80 v81 v82 v83 v84 v85 v86 v87 v88 v89 v90 v91 v92 v93 v94 v95 v96 hb;have B5:=L (B4.out.trans (hb.mono B4.out.size));have K2:=L (G2.out.on hb);have K3:=L (G3.out.on hb);have K5:=L (G5.out.on hb);have R5:=L (R4.out.on hb);clear hb B4 G2 G3 G5 R4;go_upto_region 8 with fail;refine PI _ wr w.heap.size (w.heap.size+1) me _ _ _ _ eo n3 ec (eu (es.map jc) ((c,d),(g,h))) es (c,d,g,h,(po,pn,pc),fr,ay) _ _ _ _ _ _ _ _ _ _ _ _ _ _ _ _ _ _ _ _ _ _ _ _ _ _ _ _ _ _ _ _ _ _ _ _ _ _ _ _ _ _ _ _ _ _ _ _ _ _ _ _ _ _ _ _ _ _ _ _ _ _ _ _ _ _ _ _ _ _ _ _ _ _ _ _ _ _ _ _ _ _ _ _ _ _ _ _ _ _ _ _ _ _ _ _ _ _ _ _ _ _ _ _ _ _ _ _ _ _ _ _ K2.out (nH (p:=(po,pn,pc)) K3.out) R5.out (by have:=oZ (es.map jc) ((c,d),(g,h)); rw [aL] at this; exact this) EL.out ?_;intro xw v97 v98 v99 v100 v101 v102 v103 v104 v105 v106 v107 v108 v109 v110 v111 hbx ho hbl hoth hblk;obtain⟨nD,nG,zT⟩:=(aM ho).len;obtain⟨tl,htl⟩:∃ n,n=(es.take (eu (es.map jc) ((c,d),(g,h)))++[(c,d,g,h,(po,pn,pc),fr,ay)]++es.drop (eu (es.map jc) ((c,d),(g,h)))).length:=⟨_,rfl⟩;rw [<- htl] at zT;subst zT;have B6:=L (B5.out.trans (hbl _ (aF _)));have M2:=hbx;have M3:=hoth _ _ _ (by omega) K3.out;have M5:=hoth _ _ _ (by omega) K5.out;have OE:=L (dJ ho (show w.heap.size+3<=wr.heap.size by have:=K5.out.lt; omega));clear ho hbl hoth hblk htl hbx B5 K2 K3 K5 R5;go_upto_region 9 with fail;refine yj _ xw w.heap.size (w.heap.size+1) (w.heap.size+1+1) me no ao so nD oo nn nc n2 ac sn sc tl nG eB oc _ _ _ _ _ _ _ _ _ _ _ _ ay _ _ _ _ _ _ _ _ _ _ _ _ _ _ _ _ _ _ _ _ _ _ _ _ _ _ _ _ _ _ _ _ _ _ _ _ _ _ _ _ _ _ _ _ _ _ _ _ _ _ _ _ _ _ _ _ _ _ _ _ _ _ _ _ _ _ _ _ _ _ _ _ _ _ _ _ _ _ _ _ _ _ _ _ _ _ _ _ _ _ _ _ _ _ _ _ _ _ _ _ _ _ _ _ _ _ _ _ _ _ _ _ M2 M3 M5 (by omega) ?_;intro a9 x9 II h49 h59 Us;subst Us;have FB:=L (dM M5.drew (O U me) (J no nn nc) (J ao n2 ac) (J so sn sc) (J nD tl nG) (J oo eB oc));have BL:=L (dI (b:=w.heap.size+1+1) B6.out.drew (by omega) (O U me) (J no nn nc) (J ao n2 ac) (J so sn sc) (J nD tl nG) (J oo eB oc));have FE:=L (fC (dG OE.out ((aA xw.heap.size xw).drew)) (w.heap.size+1+1) (by omega) (O U me) (J no nn nc) (J ao n2 ac) (J so sn sc) (J nD tl nG) (J oo eB oc));clear OE M2 M3 M5 B6;simp only [Exit.then]
      apply_assumption
      go_wp2_with fail;obtain⟨v0,v1,v2,v3,v4,v5⟩:=FB.out.fB;refine aC (v:=.tuple #[aT #[O U me,J no nn nc,J ao n2 ac,J so sn sc,J nD tl nG,J oo eB oc],ah ay]) (by simp [results,aO,go_sem,h49,h59,v0,v1,v2,v3,v4,v5]) II ?_;rw [LB.out];refine⟨⟨(nD,tl,nG),_,rfl,aN (dJ FE.out (show w.heap.size<=w.heap.size+3 by omega)),?_⟩,BL.out⟩;rw [<- Yj.out];exact ((HR2.out.take _).append (.cons (HRZ.out _) .nil)).append (HR2.out.drop _)
   ·cases f2
    ·have LD:=LC;rw [if_neg (by intro q; simp [q.2] at hf2)] at LD;clear LC;go_upto_region 2 with fail;refine wp_region_quiet_below (by kernel_rfl) (by kernel_rfl) ?_
     repeat (go_big_quiet_step (first | (with_reducible exact CE.out _ _)))
     refine wpQuiet_nil ?_;intro _ hw';obtain⟨⟨dq,osq⟩,hw''⟩:=hw';subst hw'';have Z6:=aS w1 dq osq;have B2:=L (B1.out.trans (Z6.mono B1.out.size));have Z2:=L (Y2.out.on Z6);have Z3:=L (Y3.out.on Z6);have Z5:=L (Y5.out.on Z6);clear Z6 B1 Y2 Y3 Y5 a0 a1 a2 a3 a4 a5 b0 b1 b2 b3 b4 b5 b6;generalize grow (cB w1 dq) osq=w2 at *;have p3b:=(PX.out w2 B2.out).2.2.2;have x_:=Z2.out;have y_:=Z3.out;obtain⟨x0,x1,x2,x3,x4,x5⟩:=x_.fB;obtain⟨y0,y1,y2,y3,y4,y5,y6⟩:=y_.oI;clear x_ y_;obtain⟨g1,hg1⟩:∃ r,(par != -1)=r:=⟨_,rfl⟩;have GP:=L (show decide (par≠-1)=g1 by rw [<- hg1]; by_cases q:par=-1 <;> simp [q]);rw [GP.out] at LD;cases g1
     ·have LB:=L LD;clear LD CV;have B3:=L B2.out;have F2:=L Z2.out;have F3:=L Z3.out;have F5:=L Z5.out;clear B2 Z2 Z3 Z5;have f3:=F3.out;obtain⟨k0,k1,k2,k3,k4,k5,k6⟩:=f3.oI;have f36:=f3.fr 6;have Ur:=f3.lt;clear f3;go_upto_region 5 with fail;clear k0 k1 k2 k3 k4 k5 k6 f36 Ur;have G3:=L (show dN _ _ #[O U c,O U d,O U g,O U h,J po pn pc,O U fr,ah ay] _ from by simpa using dR (k:=6) F3.out (ah ay));have G2:=L (show dN _ _ _ _ from (Y w2 ⟨w.heap.size+1,6,V⟩ (ah ay) _ (show w.heap.size≠w.heap.size+1 by omega)).trans F2.out);have G5:=L (show dN _ _ _ _ from (Y w2 ⟨w.heap.size+1,6,V⟩ (ah ay) _ (show w.heap.size+1+1≠w.heap.size+1 by omega)).trans F5.out);have B4:=L (B3.out.setCell (p:=⟨w.heap.size+1,6,V⟩) (by show w.heap.size<=w.heap.size+1; omega) (ah ay));clear B3 F2 F3 F5;generalize w2.setCell ⟨w.heap.size+1,6,V⟩ (ah ay)=w4 at *;have R4:=L (HE.out.on B4.out)
      go_upto_block 0 with (fail)
      refine yu _ w4 w.heap.size (w.heap.size+1) me c d g h _ _ _ _ _ _ _ eo n3 ec es _ _ _ _ _ _ _ _ _ _ _ _ _ _ _ _ _ _ _ _ _ _ _ _ _ _ _ _ _ _ _ _ _ _ _ _ _ _ _ _ _ _ _ _ _ _ _ _ _ _ _ _ _ _ _ _ _ _ _ _ _ _ _ _ _ _ _ _ _ _ _ _ _ _ _ _ _ _ _ _ _ _ _ _ _ _ _ _ _ _ _ _ _ _ _ _ _ _ _ _ _ _ _ _ _ _ _ _ _ _ _ _ G2.out G3.out R4.out N3.out (by have:=EL.out; have:=N3.out; omega) ?_;intro wr v57 v58 v59 v60 v61 v62 v63 v64 v65 v66 v67 v68 v69 v70 v71 v72 v73 v74 v75 v76 v77 v78 v79 v80 v81 v82 v83 v84 v85 v86 v87 v88 v89 v90 v91 v92 v93 v94 v95 v96 hb;have B5:=L (B4.out.trans (hb.mono B4.out.size));have K2:=L (G2.out.on hb);have K3:=L (G3.out.on hb);have K5:=L (G5.out.on hb);have R5:=L (R4.out.on hb);clear hb B4 G2 G3 G5 R4;go_upto_region 8 with fail;refine PI _ wr w.heap.size (w.heap.size+1) me _ _ _ _ eo n3 ec (eu (es.map jc) ((c,d),(g,h))) es (c,d,g,h,(po,pn,pc),fr,ay) _ _ _ _ _ _ _ _ _ _ _ _ _ _ _ _ _ _ _ _ _ _ _ _ _ _ _ _ _ _ _ _ _ _ _ _ _ _ _ _ _ _ _ _ _ _ _ _ _ _ _ _ _ _ _ _ _ _ _ _ _ _ _ _ _ _ _ _ _ _ _ _ _ _ _ _ _ _ _ _ _ _ _ _ _ _ _ _ _ _ _ _ _ _ _ _ _ _ _ _ _ _ _ _ _ _ _ _ _ _ _ _ K2.out (nH (p:=(po,pn,pc)) K3.out) R5.out (by have:=oZ (es.map jc) ((c,d),(g,h)); rw [aL] at this; exact this) EL.out ?_;intro xw v97 v98 v99 v100 v101 v102 v103 v104 v105 v106 v107 v108 v109 v110 v111 hbx ho hbl hoth hblk;obtain⟨nD,nG,zT⟩:=(aM ho).len;obtain⟨tl,htl⟩:∃ n,n=(es.take (eu (es.map jc) ((c,d),(g,h)))++[(c,d,g,h,(po,pn,pc),fr,ay)]++es.drop (eu (es.map jc) ((c,d),(g,h)))).length:=⟨_,rfl⟩;rw [<- htl] at zT;subst zT;have B6:=L (B5.out.trans (hbl _ (aF _)));have M2:=hbx;have M3:=hoth _ _ _ (by omega) K3.out;have M5:=hoth _ _ _ (by omega) K5.out;have OE:=L (dJ ho (show w.heap.size+3<=wr.heap.size by have:=K5.out.lt; omega));clear ho hbl hoth hblk htl hbx B5 K2 K3 K5 R5;go_upto_region 9 with fail;refine yj _ xw w.heap.size (w.heap.size+1) (w.heap.size+1+1) me no ao so nD oo nn nc n2 ac sn sc tl nG eB oc _ _ _ _ _ _ _ _ _ _ _ _ ay _ _ _ _ _ _ _ _ _ _ _ _ _ _ _ _ _ _ _ _ _ _ _ _ _ _ _ _ _ _ _ _ _ _ _ _ _ _ _ _ _ _ _ _ _ _ _ _ _ _ _ _ _ _ _ _ _ _ _ _ _ _ _ _ _ _ _ _ _ _ _ _ _ _ _ _ _ _ _ _ _ _ _ _ _ _ _ _ _ _ _ _ _ _ _ _ _ _ _ _ _ _ _ _ _ _ _ _ _ _ _ _ M2 M3 M5 (by omega) ?_;intro a9 x9 II h49 h59 Us;subst Us;have FB:=L (dM M5.drew (O U me) (J no nn nc) (J ao n2 ac) (J so sn sc) (J nD tl nG) (J oo eB oc));have BL:=L (dI (b:=w.heap.size+1+1) B6.out.drew (by omega) (O U me) (J no nn nc) (J ao n2 ac) (J so sn sc) (J nD tl nG) (J oo eB oc));have FE:=L (fC (dG OE.out ((aA xw.heap.size xw).drew)) (w.heap.size+1+1) (by omega) (O U me) (J no nn nc) (J ao n2 ac) (J so sn sc) (J nD tl nG) (J oo eB oc));clear OE M2 M3 M5 B6;simp only [Exit.then]
      apply_assumption
      go_wp2_with fail;obtain⟨v0,v1,v2,v3,v4,v5⟩:=FB.out.fB;refine aC (v:=.tuple #[aT #[O U me,J no nn nc,J ao n2 ac,J so sn sc,J nD tl nG,J oo eB oc],ah ay]) (by simp [results,aO,go_sem,h49,h59,v0,v1,v2,v3,v4,v5]) II ?_;rw [LB.out];refine⟨⟨(nD,tl,nG),_,rfl,aN (dJ FE.out (show w.heap.size<=w.heap.size+3 by omega)),?_⟩,BL.out⟩;rw [<- Yj.out];exact ((HR2.out.take _).append (.cons (HRZ.out _) .nil)).append (HR2.out.drop _)
     ·have CW:=L (CV.out w2 B2.out);obtain⟨cv,hcv⟩:∃ r,eY b.ent (c,d) p'=r:=⟨_,rfl⟩;rw [hcv] at CW LD;clear CV hcv;go_wp2_with fail;refine CW.out.mono ?_;rintro e3 w3 ⟨rfl,hb⟩;have B3:=L (B2.out.trans (hb.mono B2.out.size));have F2:=L (Z2.out.on hb);have F3:=L (Z3.out.on hb);have F5:=L (Z5.out.on hb);clear hb CW B2 Z2 Z3 Z5 x0 x1 x2 x3 x4 x5 y0 y1 y2 y3 y4 y5 y6 p3b;cases cv
      ·have LB:=L LD;clear LD;have f3:=F3.out;obtain⟨k0,k1,k2,k3,k4,k5,k6⟩:=f3.oI;have f36:=f3.fr 6;have Ur:=f3.lt;clear f3;go_upto_region 5 with fail;clear k0 k1 k2 k3 k4 k5 k6 f36 Ur;have G3:=L (show dN _ _ #[O U c,O U d,O U g,O U h,J po pn pc,O U fr,ah aQ] _ from by simpa using dR (k:=6) F3.out (ah aQ));have G2:=L (show dN _ _ _ _ from (Y w3 ⟨w.heap.size+1,6,V⟩ (ah aQ) _ (show w.heap.size≠w.heap.size+1 by omega)).trans F2.out);have G5:=L (show dN _ _ _ _ from (Y w3 ⟨w.heap.size+1,6,V⟩ (ah aQ) _ (show w.heap.size+1+1≠w.heap.size+1 by omega)).trans F5.out);have B4:=L (B3.out.setCell (p:=⟨w.heap.size+1,6,V⟩) (by show w.heap.size<=w.heap.size+1; omega) (ah aQ));clear B3 F2 F3 F5;generalize w3.setCell ⟨w.heap.size+1,6,V⟩ (ah aQ)=w4 at *;have R4:=L (HE.out.on B4.out)
       go_upto_block 0 with (fail)
       refine yu _ w4 w.heap.size (w.heap.size+1) me c d g h _ _ _ _ _ _ _ eo n3 ec es _ _ _ _ _ _ _ _ _ _ _ _ _ _ _ _ _ _ _ _ _ _ _ _ _ _ _ _ _ _ _ _ _ _ _ _ _ _ _ _ _ _ _ _ _ _ _ _ _ _ _ _ _ _ _ _ _ _ _ _ _ _ _ _ _ _ _ _ _ _ _ _ _ _ _ _ _ _ _ _ _ _ _ _ _ _ _ _ _ _ _ _ _ _ _ _ _ _ _ _ _ _ _ _ _ _ _ _ _ _ _ _ G2.out G3.out R4.out N3.out (by have:=EL.out; have:=N3.out; omega) ?_;intro wr v57 v58 v59 v60 v61 v62 v63 v64 v65 v66 v67 v68 v69 v70 v71 v72 v73 v74 v75 v76 v77 v78 v79 v80 v81 v82 v83 v84 v85 v86 v87 v88 v89 v90 v91 v92 v93 v94 v95 v96 hb;have B5:=L (B4.out.trans (hb.mono B4.out.size));have K2:=L (G2.out.on hb);have K3:=L (G3.out.on hb);have K5:=L (G5.out.on hb);have R5:=L (R4.out.on hb);clear hb B4 G2 G3 G5 R4;go_upto_region 8 with fail;refine PI _ wr w.heap.size (w.heap.size+1) me _ _ _ _ eo n3 ec (eu (es.map jc) ((c,d),(g,h))) es (c,d,g,h,(po,pn,pc),fr,aQ) _ _ _ _ _ _ _ _ _ _ _ _ _ _ _ _ _ _ _ _ _ _ _ _ _ _ _ _ _ _ _ _ _ _ _ _ _ _ _ _ _ _ _ _ _ _ _ _ _ _ _ _ _ _ _ _ _ _ _ _ _ _ _ _ _ _ _ _ _ _ _ _ _ _ _ _ _ _ _ _ _ _ _ _ _ _ _ _ _ _ _ _ _ _ _ _ _ _ _ _ _ _ _ _ _ _ _ _ _ _ _ _ K2.out (nH (p:=(po,pn,pc)) K3.out) R5.out (by have:=oZ (es.map jc) ((c,d),(g,h)); rw [aL] at this; exact this) EL.out ?_;intro xw v97 v98 v99 v100 v101 v102 v103 v104 v105 v106 v107 v108 v109 v110 v111 hbx ho hbl hoth hblk;obtain⟨nD,nG,zT⟩:=(aM ho).len;obtain⟨tl,htl⟩:∃ n,n=(es.take (eu (es.map jc) ((c,d),(g,h)))++[(c,d,g,h,(po,pn,pc),fr,aQ)]++es.drop (eu (es.map jc) ((c,d),(g,h)))).length:=⟨_,rfl⟩;rw [<- htl] at zT;subst zT;have B6:=L (B5.out.trans (hbl _ (aF _)));have M2:=hbx;have M3:=hoth _ _ _ (by omega) K3.out;have M5:=hoth _ _ _ (by omega) K5.out;have OE:=L (dJ ho (show w.heap.size+3<=wr.heap.size by have:=K5.out.lt; omega));clear ho hbl hoth hblk htl hbx B5 K2 K3 K5 R5;go_upto_region 9 with fail;refine yj _ xw w.heap.size (w.heap.size+1) (w.heap.size+1+1) me no ao so nD oo nn nc n2 ac sn sc tl nG eB oc _ _ _ _ _ _ _ _ _ _ _ _ aQ _ _ _ _ _ _ _ _ _ _ _ _ _ _ _ _ _ _ _ _ _ _ _ _ _ _ _ _ _ _ _ _ _ _ _ _ _ _ _ _ _ _ _ _ _ _ _ _ _ _ _ _ _ _ _ _ _ _ _ _ _ _ _ _ _ _ _ _ _ _ _ _ _ _ _ _ _ _ _ _ _ _ _ _ _ _ _ _ _ _ _ _ _ _ _ _ _ _ _ _ _ _ _ _ _ _ _ _ _ _ _ _ M2 M3 M5 (by omega) ?_;intro a9 x9 II h49 h59 Us;subst Us;have FB:=L (dM M5.drew (O U me) (J no nn nc) (J ao n2 ac) (J so sn sc) (J nD tl nG) (J oo eB oc));have BL:=L (dI (b:=w.heap.size+1+1) B6.out.drew (by omega) (O U me) (J no nn nc) (J ao n2 ac) (J so sn sc) (J nD tl nG) (J oo eB oc));have FE:=L (fC (dG OE.out ((aA xw.heap.size xw).drew)) (w.heap.size+1+1) (by omega) (O U me) (J no nn nc) (J ao n2 ac) (J so sn sc) (J nD tl nG) (J oo eB oc));clear OE M2 M3 M5 B6;simp only [Exit.then]
       apply_assumption
       go_wp2_with fail;obtain⟨v0,v1,v2,v3,v4,v5⟩:=FB.out.fB;refine aC (v:=.tuple #[aT #[O U me,J no nn nc,J ao n2 ac,J so sn sc,J nD tl nG,J oo eB oc],ah aQ]) (by simp [results,aO,go_sem,h49,h59,v0,v1,v2,v3,v4,v5]) II ?_;rw [LB.out];refine⟨⟨(nD,tl,nG),_,rfl,aN (dJ FE.out (show w.heap.size<=w.heap.size+3 by omega)),?_⟩,BL.out⟩;rw [<- Yj.out];exact ((HR2.out.take _).append (.cons (HRZ.out _) .nil)).append (HR2.out.drop _)
      ·have LB:=L LD;clear LD;have f3:=F3.out;obtain⟨k0,k1,k2,k3,k4,k5,k6⟩:=f3.oI;have f36:=f3.fr 6;have Ur:=f3.lt;clear f3;go_upto_region 5 with fail;clear k0 k1 k2 k3 k4 k5 k6 f36 Ur;have G3:=L (show dN _ _ #[O U c,O U d,O U g,O U h,J po pn pc,O U fr,ah ay] _ from by simpa using dR (k:=6) F3.out (ah ay));have G2:=L (show dN _ _ _ _ from (Y w3 ⟨w.heap.size+1,6,V⟩ (ah ay) _ (show w.heap.size≠w.heap.size+1 by omega)).trans F2.out);have G5:=L (show dN _ _ _ _ from (Y w3 ⟨w.heap.size+1,6,V⟩ (ah ay) _ (show w.heap.size+1+1≠w.heap.size+1 by omega)).trans F5.out);have B4:=L (B3.out.setCell (p:=⟨w.heap.size+1,6,V⟩) (by show w.heap.size<=w.heap.size+1; omega) (ah ay));clear B3 F2 F3 F5;generalize w3.setCell ⟨w.heap.size+1,6,V⟩ (ah ay)=w4 at *;have R4:=L (HE.out.on B4.out)
       go_upto_block 0 with (fail)
       refine yu _ w4 w.heap.size (w.heap.size+1) me c d g h _ _ _ _ _ _ _ eo n3 ec es _ _ _ _ _ _ _ _ _ _ _ _ _ _ _ _ _ _ _ _ _ _ _ _ _ _ _ _ _ _ _ _ _ _ _ _ _ _ _ _ _ _ _ _ _ _ _ _ _ _ _ _ _ _ _ _ _ _ _ _ _ _ _ _ _ _ _ _ _ _ _ _ _ _ _ _ _ _ _ _ _ _ _ _ _ _ _ _ _ _ _ _ _ _ _ _ _ _ _ _ _ _ _ _ _ _ _ _ _ _ _ _ G2.out G3.out R4.out N3.out (by have:=EL.out; have:=N3.out; omega) ?_;intro wr v57 v58 v59 v60 v61 v62 v63 v64 v65 v66 v67 v68 v69 v70 v71 v72 v73 v74 v75 v76 v77 v78 v79 v80 v81 v82 v83 v84 v85 v86 v87 v88 v89 v90 v91 v92 v93 v94 v95 v96 hb;have B5:=L (B4.out.trans (hb.mono B4.out.size));have K2:=L (G2.out.on hb);have K3:=L (G3.out.on hb);have K5:=L (G5.out.on hb);have R5:=L (R4.out.on hb);clear hb B4 G2 G3 G5 R4;go_upto_region 8 with fail;refine PI _ wr w.heap.size (w.heap.size+1) me _ _ _ _ eo n3 ec (eu (es.map jc) ((c,d),(g,h))) es (c,d,g,h,(po,pn,pc),fr,ay) _ _ _ _ _ _ _ _ _ _ _ _ _ _ _ _ _ _ _ _ _ _ _ _ _ _ _ _ _ _ _ _ _ _ _ _ _ _ _ _ _ _ _ _ _ _ _ _ _ _ _ _ _ _ _ _ _ _ _ _ _ _ _ _ _ _ _ _ _ _ _ _ _ _ _ _ _ _ _ _ _ _ _ _ _ _ _ _ _ _ _ _ _ _ _ _ _ _ _ _ _ _ _ _ _ _ _ _ _ _ _ _ K2.out (nH (p:=(po,pn,pc)) K3.out) R5.out (by have:=oZ (es.map jc) ((c,d),(g,h)); rw [aL] at this; exact this) EL.out ?_;intro xw v97 v98 v99 v100 v101 v102 v103 v104 v105 v106 v107 v108 v109 v110 v111 hbx ho hbl hoth hblk;obtain⟨nD,nG,zT⟩:=(aM ho).len;obtain⟨tl,htl⟩:∃ n,n=(es.take (eu (es.map jc) ((c,d),(g,h)))++[(c,d,g,h,(po,pn,pc),fr,ay)]++es.drop (eu (es.map jc) ((c,d),(g,h)))).length:=⟨_,rfl⟩;rw [<- htl] at zT;subst zT;have B6:=L (B5.out.trans (hbl _ (aF _)));have M2:=hbx;have M3:=hoth _ _ _ (by omega) K3.out;have M5:=hoth _ _ _ (by omega) K5.out;have OE:=L (dJ ho (show w.heap.size+3<=wr.heap.size by have:=K5.out.lt; omega));clear ho hbl hoth hblk htl hbx B5 K2 K3 K5 R5;go_upto_region 9 with fail;refine yj _ xw w.heap.size (w.heap.size+1) (w.heap.size+1+1) me no ao so nD oo nn nc n2 ac sn sc tl nG eB oc _ _ _ _ _ _ _ _ _ _ _ _ ay _ _ _ _ _ _ _ _ _ _ _ _ _ _ _ _ _ _ _ _ _ _ _ _ _ _ _ _ _ _ _ _ _ _ _ _ _ _ _ _ _ _ _ _ _ _ _ _ _ _ _ _ _ _ _ _ _ _ _ _ _ _ _ _ _ _ _ _ _ _ _ _ _ _ _ _ _ _ _ _ _ _ _ _ _ _ _ _ _ _ _ _ _ _ _ _ _ _ _ _ _ _ _ _ _ _ _ _ _ _ _ _ M2 M3 M5 (by omega) ?_;intro a9 x9 II h49 h59 Us;subst Us;have FB:=L (dM M5.drew (O U me) (J no nn nc) (J ao n2 ac) (J so sn sc) (J nD tl nG) (J oo eB oc));have BL:=L (dI (b:=w.heap.size+1+1) B6.out.drew (by omega) (O U me) (J no nn nc) (J ao n2 ac) (J so sn sc) (J nD tl nG) (J oo eB oc));have FE:=L (fC (dG OE.out ((aA xw.heap.size xw).drew)) (w.heap.size+1+1) (by omega) (O U me) (J no nn nc) (J ao n2 ac) (J so sn sc) (J nD tl nG) (J oo eB oc));clear OE M2 M3 M5 B6;simp only [Exit.then]
       apply_assumption
       go_wp2_with fail;obtain⟨v0,v1,v2,v3,v4,v5⟩:=FB.out.fB;refine aC (v:=.tuple #[aT #[O U me,J no nn nc,J ao n2 ac,J so sn sc,J nD tl nG,J oo eB oc],ah ay]) (by simp [results,aO,go_sem,h49,h59,v0,v1,v2,v3,v4,v5]) II ?_;rw [LB.out];refine⟨⟨(nD,tl,nG),_,rfl,aN (dJ FE.out (show w.heap.size<=w.heap.size+3 by omega)),?_⟩,BL.out⟩;rw [<- Yj.out];exact ((HR2.out.take _).append (.cons (HRZ.out _) .nil)).append (HR2.out.drop _)
    ·have LB:=L (LC.trans (if_pos (by simpa using And.intro hf1 hf2)));clear LC;go_upto_region 2 with fail;refine wp_region_quiet_below (by kernel_rfl) (by kernel_rfl) ?_
     repeat (go_big_quiet_step (first | (with_reducible exact CE.out _ _)))
     refine wpQuiet_nil ?_;intro _ hw';obtain⟨⟨dq,osq⟩,hw''⟩:=hw';subst hw'';have Z6:=aS w1 dq osq;have B2:=L (B1.out.trans (Z6.mono B1.out.size));have Z2:=L (Y2.out.on Z6);have Z3:=L (Y3.out.on Z6);have Z5:=L (Y5.out.on Z6);clear Z6 B1 Y2 Y3 Y5 a0 a1 a2 a3 a4 a5 b0 b1 b2 b3 b4 b5 b6;generalize grow (cB w1 dq) osq=w2 at *;have FB:=L (dM Z5.out (O U me) (J no nn nc) (J ao n2 ac) (J so sn sc) (J eo n3 ec) (J oo eB oc));have BL:=L (dI (b:=w.heap.size+1+1) B2.out (by omega) (O U me) (J no nn nc) (J ao n2 ac) (J so sn sc) (J eo n3 ec) (J oo eB oc));have uW:=Z2.out;have qL:=Z5.out;obtain⟨x0,x1,x2,x3,x4,x5⟩:=uW.fB;obtain⟨r0,r1,r2,r3,r4,r5⟩:=qL.fB;obtain⟨t0,t1,t2,t3,t4,t5⟩:=qL.kJ;have zz:=qL.lt;clear uW qL;go_wp2_with fail;obtain⟨v0,v1,v2,v3,v4,v5⟩:=FB.out.fB;refine aC (v:=.tuple #[aT #[O U me,J no nn nc,J ao n2 ac,J so sn sc,J eo n3 ec,J oo eB oc],ah ay]) (by simp [results,aO,go_sem,v0,v1,v2,v3,v4,v5]) rfl ?_;rw [LB.out];exact⟨⟨(eo,n3,ec),es,rfl,bO ⟨rfl,rfl,rfl⟩,HR2.out⟩,BL.out⟩
  ·have LB:=L (show fG b ⟨(c,d),(g,h),p',fr,up0⟩=(b,ay) from (LA.out _ he).trans (if_pos (by omega)));have hge:decide ((0:Int)<=(j:Int))=aQ:=decide_eq_true (by omega);rw [he] at CE;clear LA he;go_upto_region 2 with fail;refine wp_region_quiet_below (by kernel_rfl) (by kernel_rfl) ?_
   repeat (go_big_quiet_step (first | (with_reducible exact CE.out _ _)))
   refine wpQuiet_nil ?_;intro _ hw';obtain⟨⟨dq,osq⟩,hw''⟩:=hw';subst hw'';have Z6:=aS w1 dq osq;have B2:=L (B1.out.trans (Z6.mono B1.out.size));have Z2:=L (Y2.out.on Z6);have Z3:=L (Y3.out.on Z6);have Z5:=L (Y5.out.on Z6);clear Z6 B1 Y2 Y3 Y5 a0 a1 a2 a3 a4 a5 b0 b1 b2 b3 b4 b5 b6;generalize grow (cB w1 dq) osq=w2 at *;have FB:=L (dM Z5.out (O U me) (J no nn nc) (J ao n2 ac) (J so sn sc) (J eo n3 ec) (J oo eB oc));have BL:=L (dI (b:=w.heap.size+1+1) B2.out (by omega) (O U me) (J no nn nc) (J ao n2 ac) (J so sn sc) (J eo n3 ec) (J oo eB oc));have uW:=Z2.out;have qL:=Z5.out;obtain⟨x0,x1,x2,x3,x4,x5⟩:=uW.fB;obtain⟨r0,r1,r2,r3,r4,r5⟩:=qL.fB;obtain⟨t0,t1,t2,t3,t4,t5⟩:=qL.kJ;have zz:=qL.lt;clear uW qL;go_wp2_with fail;obtain⟨v0,v1,v2,v3,v4,v5⟩:=FB.out.fB;refine aC (v:=.tuple #[aT #[O U me,J no nn nc,J ao n2 ac,J so sn sc,J eo n3 ec,J oo eB oc],ah ay]) (by simp [results,aO,go_sem,v0,v1,v2,v3,v4,v5]) rfl ?_;rw [LB.out];exact⟨⟨(eo,n3,ec),es,rfl,bO ⟨rfl,rfl,rfl⟩,HR2.out⟩,BL.out⟩
theorem jR (b:Br) (e:En):(fG b e).1.me=b.me/\(fG b e).1.near=b.near/\(fG b e).1.dQ=b.dQ/\(fG b e).1.seen=b.seen/\(fG b e).1.own=b.own:=by
 unfold fG
 split
 ·exact⟨rfl,rfl,rfl,rfl,rfl⟩
 ·split
  ·exact⟨rfl,rfl,rfl,rfl,rfl⟩
  ·split
   ·exact⟨rfl,rfl,rfl,rfl,rfl⟩
   ·split <;> exact⟨rfl,rfl,rfl,rfl,rfl⟩
theorem Ut (b:Br) (nv av sv ev ov:Sl) (z:iH) (e:En) (w:aK) (h_:iI w b nv av sv ev ov) (hz:jd w z e) (l2:b.dQ.length<=900) (l3:b.ent.length<=900) (hok:∀ e∈b.ent,dW e.p) (hop:dW e.p) :
  Calls aH 57 #[mJ b.me nv av sv ev ov,qg z] w fun e' w'=>(∃ ev':Sl,e'=.returned (.tuple #[mJ b.me nv av sv ev' ov,ah (fG b e).2])/\iI w' (fG b e).1 nv av sv ev' ov)/\Below w.heap.size w w':=by
 obtain⟨es,he1,he2⟩:=h_.ent;refine (uN b nv av sv ev ov z e w es (jd w) h_ he1 he2 he2 (fun u=>⟨hz.1,hz.2.1,hz.2.2.1,rfl,hz.2.2.2.2⟩) hz l2 l3 hok hop).mono ?_;rintro e1 w1 ⟨⟨ev',xs,rfl,hr,hx⟩,hb⟩;refine⟨⟨ev',rfl,?_⟩,hb⟩;have hI:=h_.on hb;obtain⟨_,a2,a3,a4,a5⟩:=jR b e;refine⟨by rw [a2]; exact hI.near,by rw [a3]; exact hI.dQ,by rw [a4]; exact hI.seen,⟨xs,?_,hx.mono fun _ _ h=>h.on hb⟩,by rw [a5]; exact hI.own⟩;rcases hr with⟨h1,h2,_⟩|hr
 ·rw [h1,h2];exact he1.on hb
 ·exact aM hr
end Bk
namespace Bk
open Go.RowKit Go.Sort Rw YtkcfgbddlpomgaaGreat.Nm Pr
open Av
def Cv (e:En):En:={ e with up:=aQ }
def gM (t:Id) (s:List En×List En) (k:Nat):List En×List En:=match s.1[k]? with
 | none=>s
 | some e=>if e.tree=t/\e.up=ay/\eY s.1 t e.p=ay then (s.1.set k (Cv e),s.2++[Cv e]) else s
def gT (t:Id) (m:List En) (k:Nat):List En×List En:=(List.range k).foldl (gM t) (m,[])
def takeB (b:Br) (t s:Id) (f:Int):Br×List En×Bool:=match b.ent[(iJ (b.ent.map eD) (t,s)).toNat]? with
 | none=>(b,[],ay)
 | some e=>if iJ (b.ent.map eD) (t,s)=-1 then (b,[],ay) else if e.from_≠f then (b,[],ay) else
  if e.up=ay then ({ b with ent:=cutAt b.ent (iJ (b.ent.map eD) (t,s)).toNat },[],ay) else
  ({ b with ent:=(gT t (cutAt b.ent (iJ (b.ent.map eD) (t,s)).toNat) (cutAt b.ent (iJ (b.ent.map eD) (t,s)).toNat).length).1 },(gT t (cutAt b.ent (iJ (b.ent.map eD) (t,s)).toNat) (cutAt b.ent (iJ (b.ent.map eD) (t,s)).toNat).length).2,aQ)
theorem jH (t:Id) (m:List En) (k:Nat):gT t m (k+1)=gM t (gT t m k) k:=by
 simp [gT,List.range_succ]
theorem F7 (t:Id) (s:List En×List En) (k:Nat):(gM t s k).1.length=s.1.length/\(gM t s k).2.length<=s.2.length+1:=by
 unfold gM
 split
 ·exact⟨rfl,Nat.le_succ _⟩
 ·split
  ·simp
  ·exact⟨rfl,Nat.le_succ _⟩
theorem o7 (t:Id) (m:List En):∀ k,(gT t m k).1.length=m.length/\(gT t m k).2.length<=k
 | 0=>⟨rfl,aF _⟩
 | k+1=>by
  rw [jH];have h1:=o7 t m k;have h2:=F7 t (gT t m k) k;omega
theorem IJ {t:Id} {m:List En} (P:List C5->Prop) (h:∀ e∈m,P e.p):∀ k,(∀ e∈(gT t m k).1,P e.p)/\∀ e∈(gT t m k).2,P e.p
 | 0=>⟨h,fun e he=>by simp [gT] at he⟩
 | k+1=>by
  have ih:=IJ (t:=t) P h k;rw [jH];unfold gM
  split
  ·exact ih
  ·rename_i e he
   split
   ·refine⟨fun x hx=>?_,fun x hx=>?_⟩
    ·rcases bK hx with h1|h1
     ·exact ih.1 x h1
     ·rw [h1];exact ih.1 e (aR he)
    ·rcases bA.1 hx with h1|h1
     ·exact ih.2 x h1
     ·rw [bY.1 h1];exact ih.1 e (aR he)
   ·exact ih
theorem IK:∀ (l:List iH) (k:Nat) (x:iH),l[k]?=X x->flat EN (l.set k (x.1,x.2.1,x.2.2.1,x.2.2.2.1,x.2.2.2.2.1,x.2.2.2.2.2.1,aQ))=(flat EN l).set (k * 7+6) (ah aQ)
 | [],k,x,h=>by simp at h
 | y::r,0,x,h=>by
  obtain rfl:y=x:=by simpa using h
  rfl
 | y::r,k+1,x,h=>by
  have ih:=IK r k x (by simpa using h);rw [show (k+1) * 7+6=(k * 7+6)+1+1+1+1+1+1+1 by omega];simp only [bF,flat,EN,iR,List.cons_append,List.nil_append] at ih ⊢;rw [ih]
theorem Np {w:aK} {B g n cap k:Nat} {l:List iH} {x:iH} (h:iU w B (J (X ⟨g,0,V⟩) n cap) l) (hk:l[k]?=X x) :
  iU (w.setCell ⟨g,k * 7+6,V⟩ (ah aQ)) B (J (X ⟨g,0,V⟩) n cap) (l.set k (x.1,x.2.1,x.2.2.1,x.2.2.2.1,x.2.2.2.2.1,x.2.2.2.2.2.1,aQ))/\w.cell? ⟨g,k * 7+6,V⟩=X (ah x.2.2.2.2.2.2)/\w.frozen? ⟨g,k * 7+6,V⟩=ay:=by
 have c:=jG lF h hk w (aA _ _);have c6:=c 6 _ rfl;simp [Addr.add,EN] at c6;obtain⟨cur,hb⟩:=jf h;obtain⟨ao,c',hv⟩:=(aM h).len;obtain⟨_,rfl,_⟩:X ⟨g,0,V⟩=ao/\n=l.length/\cap=c':=by simpa using hv
 have h:w.ownsRow B 68 7 (J (X ⟨g,0,V⟩) l.length cap) l.length (flat EN l):=h;have t1:=(h.stored (k * 7+6) (ah aQ)).1;refine⟨?_,c6,hb.fr _⟩;have e:=IK l k x hk;show World.ownsRow _ B 68 7 _ (List.length _) (flat EN _);rw [e,List.length_set];exact t1
theorem eH.set2 {α β:Type} {R:α->β->Prop}:∀ {l:List α} {m:List β} (k:Nat) {a:α} {b:β},eH R l m->R a b->eH R (l.set k a) (m.set k b)
 | _,_,_,_,_,.nil,_=>.nil
 | _,_,0,_,_,.cons _ t,hr=>.cons hr t
 | _,_,k+1,_,_,.cons x t,hr=>.cons x (eH.set2 k t hr)
theorem wO (w:aK) (c d e f:Array aP) (r s t u:TypeId):Below w.heap.size w ((((w.alloc (Z c r)).alloc (Z d s)).alloc (Z e t)).alloc (Z f u))/\dN ((((w.alloc (Z c r)).alloc (Z d s)).alloc (Z e t)).alloc (Z f u)) w.heap.size c r/\dN ((((w.alloc (Z c r)).alloc (Z d s)).alloc (Z e t)).alloc (Z f u)) (w.heap.size+1) d s/\dN ((((w.alloc (Z c r)).alloc (Z d s)).alloc (Z e t)).alloc (Z f u)) (w.heap.size+1+1) e t/\dN ((((w.alloc (Z c r)).alloc (Z d s)).alloc (Z e t)).alloc (Z f u)) (w.heap.size+1+1+1) f u:=by
 obtain⟨h0,h1,h2,h3⟩:=gX w c d e r s t;refine⟨h0.alloc h0.size _,h1.more _,h2.more _,h3.more _,?_⟩;have h:=dO (((w.alloc (Z c r)).alloc (Z d s)).alloc (Z e t)) f u;have e2:(((w.alloc (Z c r)).alloc (Z d s)).alloc (Z e t)).heap.size=w.heap.size+1+1+1:=by simp
 rw [e2] at h;exact h
theorem DF (l:List Id) (x:Id) (h:x∈l):∃ k:Nat,fK l x=k/\l[k]?=X x:=by
 induction l with
 | nil=>simp at h
 | cons a r ih =>
  by_cases e:a=x
  ·subst e;exact⟨0,by simp [fK],rfl⟩
  ·have hr:x∈r:=by
    rcases dB.1 h with h1|h1
    ·exact absurd h1.symm e
    ·exact h1
   obtain⟨k,h1,h2⟩:=ih hr;refine⟨k+1,?_,by simpa using h2⟩;rw [fK,if_neg e,h1,if_neg (by omega)];omega
theorem yE {t:Id} {m:List En} (R:En->Prop) (hR:∀ e,e.tree=t->R e->R (Cv e)) (h:∀ e∈m,R e):∀ k,(∀ e∈(gT t m k).1,R e)/\∀ e∈(gT t m k).2,R e
 | 0=>⟨h,fun e he=>by simp [gT] at he⟩
 | k+1=>by
  have ih:=yE (t:=t) R hR h k;rw [jH];unfold gM
  split
  ·exact ih
  ·rename_i e he
   split
   ·rename_i hcond
    have hu:=hR e hcond.1 (ih.1 e (aR he));refine⟨fun x hx=>?_,fun x hx=>?_⟩
    ·rcases bK hx with h1|h1
     ·exact ih.1 x h1
     ·rw [h1];exact hu
    ·rcases bA.1 hx with h1|h1
     ·exact ih.2 x h1
     ·rw [bY.1 h1];exact hu
   ·exact ih
theorem oM {α:Type} {l:List α} {k:Nat} {x:α} (h:x∈cutAt l k):x∈l:=by
 rcases bA.1 h with h|h
 ·exact bQ h
 ·exact bR h
theorem Qn (b:Br) (nv av sv ev ov:Sl) (x s:Id) (f:Int) (w:aK) (h:iI w b nv av sv ev ov) (l3:b.ent.length<=900) (hok:∀ e∈b.ent,dW e.p) :
  Calls aH 93 #[mJ b.me nv av sv ev ov,mY x,mY s,O U f] w fun e w'=>(∃ ev' lo:Sl,e=.returned (.tuple #[mJ b.me nv av sv ev' ov,dU lo,ah (takeB b x s f).2.2])/\iI w' (takeB b x s f).1 nv av sv ev' ov/\∃ xs,kM w' (dU lo) xs/\eH (jd w') xs (takeB b x s f).2.1)/\Below w.heap.size w w':=by
 obtain⟨no,nn,nc⟩:=nv;obtain⟨ao,an,ac⟩:=av;obtain⟨so,sn,sc⟩:=sv;obtain⟨eo,en,ec⟩:=ev;obtain⟨oo,eB,oc⟩:=ov;obtain⟨c,d⟩:=x;obtain⟨c2,d2⟩:=s;obtain⟨es,he1,he2⟩:=h.ent;have Yj:=L (keys_eq he2);have EL:=L (show es.length<=900 by rw [he2.len]; exact l3);have HE2:=L he2;have OK:=L hok;obtain⟨q1,q2,hq⟩:=he1.len;obtain⟨rfl,rfl,rfl⟩:eo=q1/\en=es.length/\ec=q2:=by
  have:J eo en ec=J q1 es.length q2:=hq;simpa using this
 have EY:=Am b.me (J no nn nc) (J ao an ac) (J so sn sc) (J oo eB oc) (eo,es.length,ec) es (c,d) (c2,d2);have HH:=L h;obtain⟨h0,h1,h2,h3,h4⟩:=wO w #[O U b.me,J no nn nc,J ao an ac,J so sn sc,J eo es.length ec,J oo eB oc] #[O U c,O U d] #[O U c2,O U d2] #[O U 0,J V 0 0,J V 0 0,J V 0 0,J V 0 0,J V 0 0] 33 38 38 33;obtain⟨n3,Te⟩:∃ n,n=es.length:=⟨_,rfl⟩;simp only [<- Te] at h0 h1 h2 h3 h4 he1 HH EY ⊢;obtain⟨me,hme⟩:∃ me,me=b.me:=⟨_,rfl⟩;simp only [<- hme] at h0 h1 h2 h3 h4 EY ⊢;have N3:=L Te;have gU:=L (h0);have yF:=L (h1);have lV:=L (h2);have mR:=L (h3);have CX:=L (h4);have Qo:=L (he1.on h0);have HEW:=L he1;clear h0 h1 h2 h3 h4 he1 he2 h hq Te l3 hme hok;go_enter Tryz.func93,Tryz.ntmps93;go_upto_region 1 with fail;generalize ((((w.alloc (Z #[O U me,J no nn nc,J ao an ac,J so sn sc,J eo n3 ec,J oo eB oc] 33)).alloc (Z #[O U c,O U d] 38)).alloc (Z #[O U c2,O U d2] 38)).alloc (Z #[O U 0,J V 0 0,J V 0 0,J V 0 0,J V 0 0,J V 0 0] 33))=W at *;have SW:=L (EY W Qo.out);clear EY;obtain⟨x0,x1,x2,x3,x4,x5⟩:=yF.out.fB;obtain⟨y0,y1⟩:=lV.out.cs2;obtain⟨z0,z1⟩:=mR.out.cs2;rcases lG (es.map jc) ((c,d),(c2,d2)) with hf|⟨k,hf,hkk⟩
 ·have LB:=L (show takeB b (c,d) (c2,d2) f=(b,[],ay) by
   have hf2:=hf;rw [Yj.out] at hf2;unfold takeB;rw [hf2]
   split
   ·rfl
   ·rw [if_pos rfl])
  rw [hf] at SW;clear hf;go_wp2_with fail;refine SW.out.mono ?_;rintro e1 w1 ⟨rfl,hb⟩;clear SW;clear x0 x1 x2 x3 x4 x5 y0 y1 z0 z1;have kZ:=L (gU.out.trans (hb.mono gU.out.size));have nI:=L (yF.out.on hb);have CY:=L (lV.out.on hb);have tJ:=L (mR.out.on hb);have tK:=L (CX.out.on hb);have ads:=L (Qo.out.on hb);clear gU yF lV mR CX Qo;clear hb;obtain⟨x0,x1,x2,x3,x4,x5⟩:=nI.out.fB;obtain⟨r0,r1,r2,r3,r4,r5⟩:=tK.out.fB;obtain⟨DI,DJ,DK,DL,DN,DT⟩:=tK.out.kJ;have zz:=tK.out.lt;have FB:=L (dM tK.out (O U me) (J no nn nc) (J ao an ac) (J so sn sc) (J eo n3 ec) (J oo eB oc));have BL:=L (dI (b:=w.heap.size+1+1+1) kZ.out (by omega) (O U me) (J no nn nc) (J ao an ac) (J so sn sc) (J eo n3 ec) (J oo eB oc));go_wp2_with fail;obtain⟨v0,v1,v2,v3,v4,v5⟩:=FB.out.fB;refine aC (v:=.tuple #[aT #[O U me,J no nn nc,J ao an ac,J so sn sc,J eo n3 ec,J oo eB oc],J V 0 0,ah ay]) (by simp [results,bH,go_sem,v0,v1,v2,v3,v4,v5]) rfl ?_;rw [LB.out];exact⟨⟨(eo,n3,ec),(V,0,0),rfl,HH.out.on BL.out,[],je _,.nil⟩,BL.out⟩
 ·rw [hf] at SW;have hk:k<es.length:=by have:=(aW.1 hkk).1; simpa using this
  obtain⟨y,hy⟩:∃ y,es[k]?=X y:=⟨_,au hk⟩;obtain⟨e0,he0⟩:∃ e,b.ent[k]?=X e:=⟨_,au (by rw [<- HE2.out.len]; exact hk)⟩;obtain⟨y_,hy_,hye⟩:=HE2.out.at k e0 he0;obtain rfl:y=y_:=bg (hy.symm.trans hy_);have hkn:k<n3:=by rw [N3.out]; exact hk
  have LB:=L (show takeB b (c,d) (c2,d2) f=if e0.from_≠f then (b,[],ay) else if e0.up=ay then ({ b with ent:=cutAt b.ent k },[],ay) else ({ b with ent:=(gT (c,d) (cutAt b.ent k) (cutAt b.ent k).length).1 },(gT (c,d) (cutAt b.ent k) (cutAt b.ent k).length).2,aQ) by
   have hf2:=hf;rw [Yj.out] at hf2;unfold takeB;rw [hf2,aY,he0];simp only;rw [if_neg (by omega)])
  obtain⟨p,ix,px⟩:=Pv Qo.out rfl N3.out.symm hy;obtain⟨t1,t2,t3,t4,⟨po,pn,pc⟩,fr,up⟩:=y;obtain⟨hl1,hl2,hfr,hup,hl5⟩:=hye;simp only at hfr hup;rw [<- hfr,<- hup] at LB;clear hfr hup hl1 hl2 hl5 hy_ he0 e0;have hik:decide ((k:Int)<0)=ay:=decide_eq_false (by omega);have XL:=EL.out;go_wp2_with fail;refine SW.out.mono ?_;rintro e1 w1 ⟨rfl,hb⟩;have zk:=px w1 hb;obtain⟨p0,p1,p2,p3,p4,p5,p6⟩:=zk;clear SW px;clear x0 x1 x2 x3 x4 x5 y0 y1 z0 z1;have kZ:=L (gU.out.trans (hb.mono gU.out.size));have nI:=L (yF.out.on hb);have CY:=L (lV.out.on hb);have tJ:=L (mR.out.on hb);have tK:=L (CX.out.on hb);have ads:=L (Qo.out.on hb);clear gU yF lV mR CX Qo;clear hb hf;by_cases hpf:fr=f
  ·rw [if_neg (by simp [hpf])] at LB;have hne:(fr != f)=ay:=by simp [hpf]
   obtain⟨x0,x1,x2,x3,x4,x5⟩:=nI.out.fB;obtain⟨r0,r1,r2,r3,r4,r5⟩:=tK.out.fB;obtain⟨DI,DJ,DK,DL,DN,DT⟩:=tK.out.kJ;have zz:=tK.out.lt;go_upto_region 5 with fail;clear zz hne hik ix p0 p1 p2 p3 p4 p5 p6;clear x0 x1 x2 x3 x4 x5 r0 r1 r2 r3 r4 r5 DI DJ DK DL DN DT;refine ah2 _ w1 w.heap.size (w.heap.size+1) me _ _ _ _ eo n3 ec k es _ _ _ _ _ _ _ _ _ _ _ _ _ _ _ _ _ _ _ _ _ _ _ _ _ _ _ _ _ _ _ _ _ _ _ _ _ _ _ _ _ _ _ _ _ _ _ _ _ _ _ _ _ _ _ _ _ _ _ _ _ _ _ _ _ _ _ _ _ _ _ _ _ _ _ _ _ _ _ _ _ _ _ _ _ _ _ _ _ _ _ _ _ _ _ _ _ _ _ _ _ nI.out ads.out (by omega) XL ?_;intro xw v39 v40 v41 v42 v43 v44 v45 v46 v47 v48 v49 v50 v51 hbx ho hbl hoth hblk;have CE:=L (show eH (jd w) (es.take k++es.drop (k+1)) (cutAt b.ent k) from (HE2.out.take k).append (HE2.out.drop (k+1)));have OK2:=L (show ∀ e∈cutAt b.ent k,dW e.p from fun e he=>by
    rcases bA.1 he with h|h
    ·exact OK.out e (bQ h)
    ·exact OK.out e (bR h))
   have CL:=L (show (es.take k++es.drop (k+1)).length<=900 from by rw [aU,aZ,cZ]; omega);generalize es.take k++es.drop (k+1)=cs at *;obtain⟨ea,Hf,hev⟩:=(aM ho).len;obtain⟨n,hn⟩:∃ n,n=cs.length:=⟨_,rfl⟩;rw [<- hn] at hev;subst hev;have N:=L hn;clear hn;have CN:=L (show (cutAt b.ent k).length=n from by rw [N.out,CE.out.len]);have hcl:=CN.out;simp only [hcl] at LB;generalize cutAt b.ent k=cb at *;clear hcl;have qj:=L (kZ.out.trans (hbl _ (aF _)));have YQ:=L (hbx);have yY:=L (hoth _ _ _ (by omega) CY.out);have nu:=L (hoth _ _ _ (by omega) tJ.out);have qz:=L (hoth _ _ _ (by omega) tK.out);have Uu:=L (dJ ho (show w.heap.size+4<=w1.heap.size by have:=tK.out.lt; omega));have WF:=L (show w.heap.size+4<=xw.heap.size from by have:=qz.out.lt; omega);clear hbx ho hbl hoth hblk kZ nI CY tJ tK ads;cases up
   ·rw [if_pos rfl] at LB;obtain⟨x0,x1,x2,x3,x4,x5⟩:=YQ.out.fB;obtain⟨r0,r1,r2,r3,r4,r5⟩:=qz.out.fB;obtain⟨DI,DJ,DK,DL,DN,DT⟩:=qz.out.kJ;have zz:=qz.out.lt;have FB:=L (dM qz.out (O U me) (J no nn nc) (J ao an ac) (J so sn sc) (J ea n Hf) (J oo eB oc));have BL:=L (dI (b:=w.heap.size+1+1+1) qj.out (by omega) (O U me) (J no nn nc) (J ao an ac) (J so sn sc) (J ea n Hf) (J oo eB oc));have PG:=L (fC Uu.out (w.heap.size+1+1+1) (by omega) (O U me) (J no nn nc) (J ao an ac) (J so sn sc) (J ea n Hf) (J oo eB oc));go_wp2_with fail;obtain⟨v0,v1,v2,v3,v4,v5⟩:=FB.out.fB;refine aC (v:=.tuple #[aT #[O U me,J no nn nc,J ao an ac,J so sn sc,J ea n Hf,J oo eB oc],J V 0 0,ah ay]) (by simp [results,bH,go_sem,v0,v1,v2,v3,v4,v5]) rfl ?_;rw [LB.out];have hI:=HH.out.on BL.out;exact⟨⟨(ea,n,Hf),(V,0,0),rfl,⟨hI.near,hI.dQ,hI.seen,⟨cs,aM PG.out,CE.out.mono fun _ _ h=>h.on BL.out⟩,hI.own⟩,[],je _,.nil⟩,BL.out⟩
   ·rw [if_neg (by simp)] at LB;have L4:=CL.out;rw [<- N.out] at L4;obtain⟨x0,x1,x2,x3,x4,x5⟩:=YQ.out.fB;go_wp2_with fail;clear x0 x1 x2 x3 x4 x5
    go_loopw [13,58] (fun v i wr=>∃ (k:Nat) (xs ls:List iH) (a:Option bW) (c_:Nat),k<=n/\i=O U k/\Below w.heap.size w wr/\w.heap.size+4<=wr.heap.size/\dN wr w.heap.size #[O U me,J no nn nc,J ao an ac,J so sn sc,J a n c_,J oo eB oc] 33/\dN wr (w.heap.size+1) #[O U c,O U d] 38/\dN wr (w.heap.size+1+1+1) #[O U 0,J V 0 0,J V 0 0,J V 0 0,J V 0 0,J V 0 0] 33/\iU wr (w.heap.size+4) (J a n c_) xs/\eH (jd w) xs (gT (c,d) cb k).1/\iU wr (w.heap.size+4) v ls/\eH (jd w) ls (gT (c,d) cb k).2) (fun _ i _=>n-(intOf i).toNat)
    case atStart=>exact⟨0,cs,[],ea,Hf,bS _,rfl,qj.out,WF.out,YQ.out,yY.out,qz.out,Uu.out,CE.out,gB _ _,.nil⟩
    case round =>
     clear WF qj YQ yY nu qz Uu;obtain⟨k,xs,ls,ea,Hf,hk,rfl,hgb,hwf,hx4,hx5,Uv,hoe,hen,hol,hln⟩:=hrel;have ji:=L (hgb);have vD:=L (hx4);have aat:=L (hx5);have DU:=L (Uv);have nT:=L (hoe);have Nq:=L (hol);have WF:=L hwf;have EN:=L hen;have LN:=L hln;clear hgb hwf hx4 hx5 Uv hoe hen hol hln;have XN:=L (show xs.length=n from by rw [EN.out.len,(o7 _ _ _).1,CN.out]);have LN9:=L (show ls.length<=900 from by rw [LN.out.len]; exact aB (o7 _ _ _).2 (by omega));by_cases hlt:k<n
     ·have hlt':(k:Int)<(n:Int):=by omega
      have hw:IntKind.i64.wrap ((k:Int)+1)=(k:Int)+1:=bI _ (by omega);obtain⟨y,hy⟩:∃ y,xs[k]?=X y:=⟨_,au (by rw [XN.out]; exact hlt)⟩;obtain⟨e,he⟩:∃ e,(gT (c,d) cb k).1[k]?=X e:=⟨_,au (by rw [<- EN.out.len,XN.out]; exact hlt)⟩;obtain⟨y_,hy_,hye⟩:=EN.out.at k e he;obtain rfl:y=y_:=bg (hy.symm.trans hy_);have TK:=L (show gT (c,d) cb (k+1)=if e.tree=(c,d)/\e.up=ay/\eY (gT (c,d) cb k).1 (c,d) e.p=ay then ((gT (c,d) cb k).1.set k (Cv e),(gT (c,d) cb k).2++[Cv e]) else gT (c,d) cb k from by rw [jH]; unfold gM; rw [he]);have OKK:=L ((IJ (t:=(c,d)) dW OK2.out k).1);have Uw:=L hye;have HY:=L hy;have OKE:=L (OKK.out e (aR he));clear hy_ hye he;generalize gT (c,d) cb k=mk at *;obtain⟨p,ix,px⟩:=Pv (aM nT.out) rfl XN.out hy;obtain⟨p0,p1,p2,p3,p4,p5,p6⟩:=px wr (aA _ _);obtain⟨y1,y2,y3,y4,⟨yo,yn,yc⟩,y6,y7⟩:=y;simp only at p0 p1 p2 p3 p4 p5 p6;clear px hy;obtain⟨x0,x1,x2,x3,x4,x5⟩:=vD.out.fB;go_upto_region 13 with fail;clear x0 x1 x2 x3 x4 x5;clear p0 p1 p2 p3 p4 p5 p6 ix;have NN:=fI wr (Z #[O U y1,O U y2,O U y3,O U y4,J yo yn yc,O U y6,ah y7] 68);have WG:=L NN.size;have oC:=L (ji.out.trans (NN.mono ji.out.size));have wP:=L (vD.out.on NN);have IL:=L (aat.out.on NN);have yZ:=L (DU.out.on NN);have wQ:=L (Bk.dG nT.out NN);have Nr:=L (Bk.dG Nq.out NN);clear ji vD aat DU nT Nq;clear NN;have Ux:=L (dO wr #[O U y1,O U y2,O U y3,O U y4,J yo yn yc,O U y6,ah y7] 68);generalize wr.alloc (Z #[O U y1,O U y2,O U y3,O U y4,J yo yn yc,O U y6,ah y7] 68)=wa at *;obtain⟨x0,x1,x2,x3,x4,x5⟩:=wP.out.fB;obtain⟨F9,y_1⟩:=IL.out.cs2;obtain⟨z0,z1,z2,z3,z4,z5,z6⟩:=Ux.out.oI;have TE:=L (show e.tree=(y1,y2) from Uw.out.1.symm);have UE:=L (show e.up=y7 from Uw.out.2.2.2.1.symm);obtain⟨r1,hr1⟩:∃ r,(y1 == c && y2 == d)=r:=⟨_,rfl⟩;have heq:=wC y1 y2 c d r1 hr1;have R1:=L hr1;clear hr1;cases r1
      ·go_wp2_with fail
       go_roundw
       case rel=>exact⟨k+1,xs,ls,ea,Hf,by omega,by go_num,oC.out,by have:=WG.out; have:=WF.out; omega,wP.out,IL.out,yZ.out,wQ.out,by rw [TK.out,if_neg (by intro hh; have h1:=hh.1; rw [TE.out] at h1; have h2:=R1.out; simp at h1; simp [h1] at h2)]; exact EN.out,Nr.out,by rw [TK.out,if_neg (by intro hh; have h1:=hh.1; rw [TE.out] at h1; have h2:=R1.out; simp at h1; simp [h1] at h2)]; exact LN.out⟩
       case measure=>simp [intOf]; omega
      ·cases y7
       ·obtain⟨cv,hcv⟩:∃ r,eY mk.1 (c,d) e.p=r:=⟨_,rfl⟩;have CO:=wK me (J no nn nc) (J ao an ac) (J so sn sc) (J oo eB oc) (ea,n,Hf) xs mk.1 (c,d) (J yo yn yc) e.p wa (aM wQ.out) (EN.out.mono fun _ _ h=>h.on oC.out) (Uw.out.2.2.2.2.on oC.out) OKK.out OKE.out;rw [hcv] at CO;rw [hcv] at TK;clear hcv;go_wp2_with fail;refine CO.mono ?_;rintro e2 wb ⟨rfl,hb⟩;clear CO;clear x0 x1 x2 x3 x4 x5 F9 y_1 z0 z1 z2 z3 z4 z5 z6;have lY:=L (oC.out.trans (hb.mono oC.out.size));have vE:=L (wP.out.on hb);have Uy:=L (IL.out.on hb);have Uz:=L (yZ.out.on hb);have vF:=L (Bk.dG wQ.out hb);have Ns:=L (Bk.dG Nr.out hb);have DV:=L (Ux.out.on hb);clear oC wP IL yZ wQ Nr Ux;have WGb:=L (aB WG.out hb.size);clear hb WG;have WG:=L WGb.out;cases cv
        ·rw [if_pos ⟨by rw [TE.out]; have h:=R1.out; simp at h; rw [h.1,h.2],UE.out,rfl⟩] at TK;have NB:=fI wb (Z #[] 68);obtain⟨va,x1,q1,oa,ga⟩:=gK lF (w:=wb.alloc (Z #[] 68)) wb.heap.size (dO wb #[] 68) (aF _) (aM (dG vF.out NB)) (by rw [XN.out]; omega) 30;have G1:=L (NB.trans (ga.mono NB.size));have m4:=(vE.out.on NB).cell 4;simp only [aD,aI,aJ] at m4;rcases gQ oa with⟨_,h0⟩|⟨g,cg,_,rfl,hBg,_,_⟩
         ·rw [h0] at XN;have:=XN.out;simp at this;omega
         rw [XN.out] at q1 oa;have q1:(aX #[30,30] 30 #[J (X ⟨wb.heap.size,0,V⟩) 0 0,J ea n Hf]).run aH (wb.alloc (Z #[] 68))=.ok (J (X ⟨g,0,V⟩) n cg) x1:=q1;have OA:=L (dJ oa (show w.heap.size+4<=wb.heap.size from by have:=WG.out; have:=WF.out; omega));have GL:=L (aB hBg (aF g));clear oa ga NB;have OLB:=L (Ns.out);have IQ:=L (lY.out.trans (G1.out.mono lY.out.size));have tu:=L (vE.out.on G1.out);have aau:=L (Uy.out.on G1.out);have IU:=L (Uz.out.on G1.out);have Nt:=L (Bk.dG vF.out G1.out);have aav:=L (Bk.dG Ns.out G1.out);have q9:=L (DV.out.on G1.out);clear lY vE Uy Uz vF Ns DV;have WG1:=L (aB WG.out G1.out.size);obtain⟨x0,x1,x2,x3,x4,x5⟩:=tu.out.fB;obtain⟨xf0,xf1,YR,YS,Ld,YT⟩:=tu.out.kJ;have hl4:=tu.out.lt;go_upto_region 15 with (first | (at_builtin; refine wpList_append_run rfl _ _ 30 rfl rfl rfl q1 ?_) | fail)
         clear x0 x1 x2 x3 x4 x5 xf0 xf1 YR YS Ld YT;clear hl4 q1 m4;have X4b:=dR (k:=4) tu.out (J (X ⟨g,0,V⟩) n cg);simp only [bJ,bZ,bF] at X4b;have BK:=dY x1 w.heap.size 4 (J (X ⟨g,0,V⟩) n cg);have GB2:=L (IQ.out.setCell (p:=⟨w.heap.size,4,V⟩) (aF _) (J (X ⟨g,0,V⟩) n cg));have Y4:=L X4b;have Y5:=L (BK.box aau.out (by omega));have Y8:=L (BK.box IU.out (by omega));have OA2:=L (dP OA.out w.heap.size 4 (J (X ⟨g,0,V⟩) n cg) (by omega));have OL2:=L (dP aav.out w.heap.size 4 (J (X ⟨g,0,V⟩) n cg) (by omega));have WG2:=L (show wr.heap.size<=(x1.setCell ⟨w.heap.size,4,V⟩ (J (X ⟨g,0,V⟩) n cg)).heap.size from by have:=WG1.out; simpa using this);clear X4b BK OA WG1 IQ tu aau IU Nt aav q9;generalize x1.setCell ⟨w.heap.size,4,V⟩ (J (X ⟨g,0,V⟩) n cg)=x2 at *;have UP:=Np OA2.out HY.out;obtain⟨u1,u2,u3⟩:=UP;simp only at u1 u2;have ix:=oW lF g k n cg hlt;have ix:∀ w,(Instr.indexAt 30 (J (X ⟨g,0,V⟩) n cg) (O U (k:Int))).run aH w=.ok (ak (X ⟨g,k * 7,V⟩)) w:=ix;have x4:=Y4.out.cell 4;simp only [aD,aI,aJ] at x4;have OU:=L u1;clear u1;have gl:g<x2.heap.size:=by obtain⟨cur,hb⟩:=jf OA2.out; exact hb.lt
         go_upto_region 16 with fail;clear u2 u3 x4 gl;have BG:=dY x2 g (k * 7+6) (ah aQ);have GG:=L (show w.heap.size+4<=g from by have:=WG.out; have:=WF.out; have:=GL.out; omega);have GB3:=L (GB2.out.setCell (p:=⟨g,k * 7+6,V⟩) (by have:=GG.out; show w.heap.size<=g; omega) (ah aQ));have Z4:=L (BG.box Y4.out (by have:=GG.out; omega));have Z5:=L (BG.box Y5.out (by have:=GG.out; omega));have Z8:=L (BG.box Y8.out (by have:=GG.out; omega));have LG:=L (show u13.ownBlock=V\/u13.ownBlock≠X g from by
          cases hob:u13.ownBlock with
          | none=>exact bO rfl
          | some j =>
           refine aN fun e=>?_;injection e with e
           have h1:=(OLB.out.lt j hob).2;have h2:=GL.out;omega)
         have OL3:=L (OL2.out.kept (w':=x2.setCell ⟨g,k * 7+6,V⟩ (ah aQ)) (row:=X g) ⟨rfl,rfl,rfl,by simp [World.setCell],fun j _ hne=>Y _ _ _ _ (fun e=>hne (by rw [e]))⟩ LG.out);have WG3:=L (show wr.heap.size<=(x2.setCell ⟨g,k * 7+6,V⟩ (ah aQ)).heap.size from by have:=WG2.out; simpa using this);clear BG GB2 Y4 Y5 Y8 OA2 OL2 WG2;generalize x2.setCell ⟨g,k * 7+6,V⟩ (ah aQ)=x3 at *;have OU2:=OU.out;have hset:(xs.set k (y1,y2,y3,y4,(yo,yn,yc),y6,aQ))[k]?=X (y1,y2,y3,y4,(yo,yn,yc),y6,aQ):=List.getElem?_set_self (by rw [XN.out]; exact hlt);have ce:∀ j u,(iR (y1,y2,y3,y4,(yo,yn,yc),y6,aQ))[j]?=X u->x3.cell? ((⟨g,k * 7,V⟩:bW).add j)=X u:=jG lF OU2 hset x3 (aA _ _);have c0_:=ce 0 _ rfl;have c1_:=ce 1 _ rfl;have c2_:=ce 2 _ rfl;have c3_:=ce 3 _ rfl;have c4_:=ce 4 _ rfl;have c5_:=ce 5 _ rfl;have c6_:=ce 6 _ rfl;simp [Addr.add] at c0_ c1_ c2_ c3_ c4_ c5_ c6_;have x4:=Z4.out.cell 4;simp only [aD,aI,aJ] at x4;have hlit:=iD lF x3 [(y1,y2,y3,y4,(yo,yn,yc),y6,aQ)] 1 rfl (by simp) #[O U y1,O U y2,O U y3,O U y4,J yo yn yc,O U y6,ah aQ] rfl;have NB:=fI x3 (Z #[O U y1,O U y2,O U y3,O U y4,J yo yn yc,O U y6,ah aQ] 68);have hB:w.heap.size+4<=(x3.alloc (Z #[O U y1,O U y2,O U y3,O U y4,J yo yn yc,O U y6,ah aQ] 68)).heap.size:=aB (aB WF.out WG3.out) NB.size;obtain⟨v',x5,q2,o2,g2⟩:=gG lF (w.heap.size+4) (dG OL3.out NB) (aM hlit) (by have:=LN9.out; omega) (by simp) hB 30;have q2:(aX #[30,30] 30 #[u13,J (X ⟨x3.heap.size,0,V⟩) 1 1]).run aH (x3.alloc (Z #[O U y1,O U y2,O U y3,O U y4,J yo yn yc,O U y6,ah aQ] 68))=.ok v' x5:=q2;have GF:=L (show Below w.heap.size w x5 from ((GB3.out.trans (NB.mono GB3.out.size)).grown g2 (by omega) fun j hj=>by have:=((dG OL3.out NB).lt j hj).1; omega));have BO:=L (show ∀ j,j<x3.heap.size->X j≠u13.ownBlock->x5.heap[j]?=x3.heap[j]? from fun j hj hne=>(g2.block j (Nat.lt_of_lt_of_le hj NB.size) hne).trans (NB.block j hj));have ZX:=fun (bb:Nat) (cs:Array aP) (tt:TypeId) (hbb:bb<w.heap.size+4) (hbx:dN x3 bb cs tt)=>show dN x5 bb cs tt from (BO.out bb hbx.lt (fun e=>by have:=(OL3.out.lt bb e.symm).1; omega)).trans hbx;have V4:=L (ZX _ _ _ (by omega) Z4.out);have V5:=L (ZX _ _ _ (by omega) Z5.out);have V8:=L (ZX _ _ _ (by omega) Z8.out);have OU5:=L (show iU x5 (w.heap.size+4) (J (X ⟨g,0,V⟩) n cg) (xs.set k (y1,y2,y3,y4,(yo,yn,yc),y6,aQ)) from by
          have h1:=Bk.dG OU.out NB;exact h1.kept g2 (by
           cases hob:u13.ownBlock with
           | none=>exact aN (by simp [Value.ownBlock])
           | some j =>
            refine aN fun e=>?_;have h2:=LG.out;rw [hob] at h2;rcases h2 with h2|h2
            ·cases h2
            ·exact h2 (by rw [<- e]; rfl)))
         have O2:=L o2;have W5:=L (aB WG3.out (aB NB.size g2.size));clear hlit hB o2 g2 ZX BO OU2 NB hset ce;go_wp2_with (first | (at_builtin; refine wpList_append_run rfl _ _ 30 rfl rfl rfl q2 ?_) | fail)
         go_roundw
         case rel=>exact⟨k+1,_,_,X ⟨g,0,V⟩,cg,by omega,by go_num,GF.out,by have:=WF.out; have:=W5.out; omega,V4.out,V5.out,V8.out,OU5.out,by
          rw [TK.out];exact EN.out.set2 k ⟨Uw.out.1,Uw.out.2.1,Uw.out.2.2.1,rfl,Uw.out.2.2.2.2⟩,O2.out,by
          rw [TK.out];exact LN.out.append (.cons ⟨Uw.out.1,Uw.out.2.1,Uw.out.2.2.1,rfl,Uw.out.2.2.2.2⟩ .nil)⟩
         case measure=>simp [intOf]; omega
        ·go_wp2_with fail
         go_roundw
         case rel=>exact⟨k+1,xs,ls,ea,Hf,by omega,by go_num,lY.out,by have:=WG.out; have:=WF.out; omega,vE.out,Uy.out,Uz.out,vF.out,by rw [TK.out,if_neg (by simp)]; exact EN.out,Ns.out,by rw [TK.out,if_neg (by simp)]; exact LN.out⟩
         case measure=>simp [intOf]; omega
       ·go_wp2_with fail
        go_roundw
        case rel=>exact⟨k+1,xs,ls,ea,Hf,by omega,by go_num,oC.out,by have:=WG.out; have:=WF.out; omega,wP.out,IL.out,yZ.out,wQ.out,by rw [TK.out,if_neg (by intro hh; have h1:=hh.2.1; rw [UE.out] at h1; cases h1)]; exact EN.out,Nr.out,by rw [TK.out,if_neg (by intro hh; have h1:=hh.2.1; rw [UE.out] at h1; cases h1)]; exact LN.out⟩
        case measure=>simp [intOf]; omega
     ·obtain rfl:k=n:=by omega
      obtain⟨x0,x1,x2,x3,x4,x5⟩:=vD.out.fB;obtain⟨la,lc,hlv⟩:=(aM Nq.out).len;obtain⟨ln,hln⟩:∃ n,n=ls.length:=⟨_,rfl⟩;rw [<- hln] at hlv;subst hlv;clear hln;obtain⟨r0,r1,r2,r3,r4,r5⟩:=DU.out.fB;obtain⟨DI,DJ,DK,DL,DN,DT⟩:=DU.out.kJ;have zz:=DU.out.lt;have FB:=L (dM DU.out (O U me) (J no nn nc) (J ao an ac) (J so sn sc) (J ea k Hf) (J oo eB oc));have BL:=L (dI (b:=w.heap.size+1+1+1) ji.out (by omega) (O U me) (J no nn nc) (J ao an ac) (J so sn sc) (J ea k Hf) (J oo eB oc));have PG:=L (fC nT.out (w.heap.size+1+1+1) (by omega) (O U me) (J no nn nc) (J ao an ac) (J so sn sc) (J ea k Hf) (J oo eB oc));have OL2:=L (fC Nq.out (w.heap.size+1+1+1) (by omega) (O U me) (J no nn nc) (J ao an ac) (J so sn sc) (J ea k Hf) (J oo eB oc));go_wp2_with fail;obtain⟨v0,v1,v2,v3,v4,v5⟩:=FB.out.fB;refine aC (v:=.tuple #[aT #[O U me,J no nn nc,J ao an ac,J so sn sc,J ea k Hf,J oo eB oc],J la ln lc,ah aQ]) (by simp [results,bH,go_sem,v0,v1,v2,v3,v4,v5]) rfl ?_;rw [LB.out];have hI:=HH.out.on BL.out;exact⟨⟨(ea,k,Hf),(la,ln,lc),rfl,⟨hI.near,hI.dQ,hI.seen,⟨xs,aM PG.out,EN.out.mono fun _ _ h=>h.on BL.out⟩,hI.own⟩,ls,aM OL2.out,LN.out.mono fun _ _ h=>h.on BL.out⟩,BL.out⟩
  ·rw [if_pos hpf] at LB;have hne:(fr != f)=aQ:=by simp [hpf]
   obtain⟨x0,x1,x2,x3,x4,x5⟩:=nI.out.fB;obtain⟨r0,r1,r2,r3,r4,r5⟩:=tK.out.fB;obtain⟨DI,DJ,DK,DL,DN,DT⟩:=tK.out.kJ;have zz:=tK.out.lt;have FB:=L (dM tK.out (O U me) (J no nn nc) (J ao an ac) (J so sn sc) (J eo n3 ec) (J oo eB oc));have BL:=L (dI (b:=w.heap.size+1+1+1) kZ.out (by omega) (O U me) (J no nn nc) (J ao an ac) (J so sn sc) (J eo n3 ec) (J oo eB oc));go_wp2_with fail;obtain⟨v0,v1,v2,v3,v4,v5⟩:=FB.out.fB;refine aC (v:=.tuple #[aT #[O U me,J no nn nc,J ao an ac,J so sn sc,J eo n3 ec,J oo eB oc],J V 0 0,ah ay]) (by simp [results,bH,go_sem,v0,v1,v2,v3,v4,v5]) rfl ?_;rw [LB.out];exact⟨⟨(eo,n3,ec),(V,0,0),rfl,HH.out.on BL.out,[],je _,.nil⟩,BL.out⟩
structure Ou where
 iA:Int
 kind:Int
 tree:Id
 id:Id
 p:List C5
def tY (W:aK) (x:qd) (o:Ou):Prop:=x.1=o.iA/\x.2.1=o.kind/\(x.2.2.1,x.2.2.2.1)=o.tree/\(x.2.2.2.2.1,x.2.2.2.2.2.1)=o.id/\gu W (dU x.2.2.2.2.2.2.1) o.p/\x.2.2.2.2.2.2.2=(V,0,0)
theorem tY.on {W W':aK} {x:qd} {o:Ou} (h:tY W x o) (hb:Below W.heap.size W W'):tY W' x o:=⟨h.1,h.2.1,h.2.2.1,h.2.2.2.1,h.2.2.2.2.1.on hb,h.2.2.2.2.2⟩
def lW (W:aK) (s:Sl) (l:List Ou):Prop:=∃ xs,Qh W (dU s) xs/\eH (tY W) xs l
theorem lW.on {W W':aK} {s:Sl} {l:List Ou} (h:lW W s l) (hb:Below W.heap.size W W'):lW W' s l:=by
 obtain⟨xs,h1,h2⟩:=h;exact⟨xs,h1.on hb,h2.mono fun _ _ h=>h.on hb⟩
theorem ru (W:aK):lW W (V,0,0) []:=⟨[],je _,.nil⟩
def CZ (iA:Int) (e:En):Ou:=⟨iA,3,e.tree,e.sub,e.p⟩
abbrev Le (iA:Int) (x:iH):qd:=(iA,3,x.1,x.2.1,x.2.2.1,x.2.2.2.1,x.2.2.2.2.1,(V,0,0))
theorem adu {W:aK} {x:iH} {e:En} (h:jd W x e) (t:Int):tY W (Le t x) (CZ t e):=⟨rfl,rfl,h.1,h.2.1,h.2.2.2.2,rfl⟩
def kE (b:Br) (t x:Id) (f:Int):Br×List Ou:=if (takeB b t x f).2.2=ay then ((takeB b t x f).1,[]) else
 match b.dQ[(fK (b.dQ.map Ad.id) t).toNat]? with
 | none=>((takeB b t x f).1,[])
 | some a=>((takeB b t x f).1,(takeB b t x f).2.1.map (CZ a.par)++[⟨a.par,4,t,x,[]⟩])
theorem jw (b:Br) (t x:Id) (f:Int):(takeB b t x f).1.dQ=b.dQ/\(takeB b t x f).1.near=b.near/\(takeB b t x f).1.me=b.me/\(takeB b t x f).1.seen=b.seen/\(takeB b t x f).1.own=b.own:=by
 unfold takeB
 split
 ·exact⟨rfl,rfl,rfl,rfl,rfl⟩
 ·split
  ·exact⟨rfl,rfl,rfl,rfl,rfl⟩
  ·split
   ·exact⟨rfl,rfl,rfl,rfl,rfl⟩
   ·split <;> exact⟨rfl,rfl,rfl,rfl,rfl⟩
theorem Lf {b:Br} {t x:Id} {f:Int} (h:(takeB b t x f).2.2=aQ):∃ e∈b.ent,e.tree=t:=by
 unfold takeB at h
 split at h
 ·cases h
 ·rename_i e he
  split at h
  ·cases h
  ·rename_i h1
   rcases lG (b.ent.map eD) (t,x) with h2|⟨k,h2,h3⟩
   ·exact absurd h2 h1
   ·rw [h2,aY] at he;refine⟨e,aR he,?_⟩;rw [bL,he] at h3;exact congrArg Prod.fst (bg h3)
theorem rz (b:Br) (t x:Id) (f:Int):(takeB b t x f).1.ent.length<=b.ent.length/\(takeB b t x f).2.1.length<=b.ent.length:=by
 unfold takeB
 split
 ·simp
 ·split
  ·simp
  ·split
   ·simp
   ·have hc:(cutAt b.ent (iJ (b.ent.map eD) (t,x)).toNat).length<=b.ent.length:=by
     unfold cutAt;rw [aU,aZ,cZ];omega
    split
    ·exact⟨hc,by simp⟩
    ·have h1:=o7 t (cutAt b.ent (iJ (b.ent.map eD) (t,x)).toNat) (cutAt b.ent (iJ (b.ent.map eD) (t,x)).toNat).length;exact⟨by rw [show ((gT t _ _).1.length)=_ from h1.1]; exact hc,aB h1.2 hc⟩
theorem wR {W x:aK} {b F0:Nat} {cs:Array aP} {t:TypeId} (h:dN W b cs t) (hb:Below F0 W x) (hl:b<F0):dN x b cs t:=(hb.block b hl).trans h
end Bk
namespace Bk
open Go.RowKit Go.Sort Rw YtkcfgbddlpomgaaGreat.Nm Pr Rl
theorem any_succ {α:Type} {m:List α} {k:Nat} {e:α} {f:α->Bool} (h:m[k]?=X e):(m.take (k+1)).any f=((m.take k).any f || f e):=by
 obtain⟨h1,h2⟩:=aW.1 h;rw [List.take_succ_eq_append_getElem h1,h2,List.any_append];simp
end Bk
namespace Av
open Go.RowKit Go.Sort Rw YtkcfgbddlpomgaaGreat.Nm Pr Bk
def jS (near:List Int) (f:Int):Bool:=decide (f∈near) || f == -1
end Av
namespace Bk
open Go.RowKit Go.Sort Rw YtkcfgbddlpomgaaGreat.Nm Pr
def dV (W F0:Nat) (bv rv:aP) (iA c d c2 d2:Int) (lo:List qd) (i:Nat) (v:aP) (x:aK):Prop :=
 match i with
 | 0=>v=bv
 | 1=>v=rv
 | 2=>v=O U iA
 | 3=>v=mY (c,d)
 | 4=>v=mY (c2,d2)
 | 5=>v=aT #[O U 4,O U c,O U d,O U c2,O U d2,J V 0 0,J V 0 0]
 | 6=>v=Ag (iA,4,c,d,c2,d2,(V,0,0),(V,0,0))
 | 7=>jB x W v [(iA,4,c,d,c2,d2,(V,0,0),(V,0,0))]
 | 8=>∃ sl:Sl,v=dU sl/\jB x F0 v (lo++[(iA,4,c,d,c2,d2,(V,0,0),(V,0,0))])
 | 10=>∃ sl:Sl,v=dU sl/\jB x F0 v (lo++[(iA,4,c,d,c2,d2,(V,0,0),(V,0,0))])
 | _=>True
def dF (W:aK) (F0 b4 b5 b6 b8:Nat) (bc:Array aP) (c d c2 d2:Int) (D:Nat->Prop) (x:aK):Prop :=
 (dN x b4 bc 33/\dN x b5 #[O U c,O U d] 38/\dN x b6 #[O U c2,O U d2] 38)/\(¬ D 8->Below W.heap.size W x)/\(¬ D 9->Below F0 W x)/\(D 9->dN x b8 bc 33/\(∀ j,j<F0->j≠b8->x.heap[j]?=W.heap[j]?)/\∀ B,B<=b8->Below B W x)
noncomputable def Nu:Code:=((Tryz.f59.body.bind (eP 11)).getD .skip)
theorem UA (Q:Exit->Act->aK->Prop) (W:aK) (F0 b4 b5 b6 b8:Nat) (me iA c d c2 d2:Int) (o1 o2 o3 o4 o5:Option bW) (n1 k1 n2 k2 n3 k3 n4 k4 n5 k5:Nat) (rv:aP) (lo:List qd) (z0 z1 z2 z3 z4 z5:aP) (u0 u1 u2 u3 u7 u9 u10 u11 u14 u15 u16 u17 u18 u19 u20 u21 u22 u23 u24 u25 u26 u27 u28 u29 u30 u31 u32 u33 u34 u35 u36 u37 u38 u39 u40 u41 u42 u43 u44 u45 u46 u47 u48 u49 u50 u51 u52 u53 u54 u55 u56 u57 u58:aP)
  (h4:dN W b4 #[O U me,J o1 n1 k1,J o2 n2 k2,J o3 n3 k3,J o4 n4 k4,J o5 n5 k5] 33) (h5:dN W b5 #[O U c,O U d] 38) (h6:dN W b6 #[O U c2,O U d2] 38) (h8:dN W b8 #[z0,z1,z2,z3,z4,z5] 33) (l4:b4<F0) (l5:b5<F0) (l6:b6<F0) (l8:b8<F0) (n4_:b4≠b8) (n5_:b5≠b8) (n6_:b6≠b8) (fw:F0<=W.heap.size) (hown:jB W F0 rv lo) (hlen:lo.length<=1000)
  (hQ:∀ (a:Act) (x:aK) (sl:Sl),a.defers=[]->a.tmps[8]?=X (ak (X ⟨b8,0,V⟩))->a.tmps[9]?=X (dU sl)->dN x b8 #[O U me,J o1 n1 k1,J o2 n2 k2,J o3 n3 k3,J o4 n4 k4,J o5 n5 k5] 33->jB x F0 (dU sl) (lo++[(iA,4,c,d,c2,d2,(V,0,0),(V,0,0))])->(∀ k,k<F0->k≠b8->x.heap[k]?=W.heap[k]?)->(∀ B,B<=b8->Below B W x)->Q .normal a x) :
  Code.wp aH Nu Q ⟨(u0::u1::u2::u3::ak (X ⟨b4,0,V⟩)::ak (X ⟨b5,0,V⟩)::ak (X ⟨b6,0,V⟩)::u7::ak (X ⟨b8,0,V⟩)::u9::u10::u11::O U iA::rv::u14::u15::u16::u17::u18::u19::u20::u21::u22::u23::u24::u25::u26::u27::u28::u29::u30::u31::u32::u33::u34::u35::u36::u37::u38::u39::u40::u41::u42::u43::u44::u45::u46::u47::u48::u49::u50::u51::u52::u53::u54::u55::u56::u57::u58::[]).toArray,[]⟩ W:=by
 have HQ:=L hQ;have H4:=L h4;have H5:=L h5;have H6:=L h6;have H8:=L h8;have L4:=L l4;have L5:=L l5;have L6:=L l6;have L8:=L l8;have N4:=L n4_;have N5:=L n5_;have N6:=L n6_;have FW:=L fw;have HO:=L hown;have HL:=L hlen;clear hQ h4 h5 h6 h8 l4 l5 l6 l8 n4_ n5_ n6_ fw hown hlen;unfold Nu
 conv=>arg 2; whnf
 have nd:∀ j,(∀ i,i<11->[X 50,X 51,X 52,X 53,X 54,X 55,X 56,X 57,X 58,V,X 9].getD i V≠X j)->∀ i,i<11->(fun i=>[X 50,X 51,X 52,X 53,X 54,X 55,X 56,X 57,X 58,V,X 9].getD i V) i≠X j:=fun j h=>h;refine Rg.yV 11 (fun i=>[X 50,X 51,X 52,X 53,X 54,X 55,X 56,X 57,X 58,V,X 9].getD i V) (fun i=>if i=7 then 8 else 11) (dV W.heap.size F0 (aT #[O U me,J o1 n1 k1,J o2 n2 k2,J o3 n3 k3,J o4 n4 k4,J o5 n5 k5]) rv iA c d c2 d2 lo) (dF W F0 b4 b5 b6 b8 #[O U me,J o1 n1 k1,J o2 n2 k2,J o3 n3 k3,J o4 n4 k4,J o5 n5 k5] c d c2 d2) (by kernel_rfl) (by kernel_rfl) rfl (fun i j e hi hj h1 h2=>(by decide:∀ i,i<11->∀ j,j<11->([X 50,X 51,X 52,X 53,X 54,X 55,X 56,X 57,X 58,V,X 9].getD i V).isSome=aQ->[X 50,X 51,X 52,X 53,X 54,X 55,X 56,X 57,X 58,V,X 9].getD i V=[X 50,X 51,X 52,X 53,X 54,X 55,X 56,X 57,X 58,V,X 9].getD j V->i=j) i hi j hj (by have h1:[X 50,X 51,X 52,X 53,X 54,X 55,X 56,X 57,X 58,V,X 9].getD i V=X e:=h1; rw [h1]; rfl) (h1.trans h2.symm)) (fun i e hi h=>(by decide:∀ i,i<11->∀ q∈[X 50,X 51,X 52,X 53,X 54,X 55,X 56,X 57,X 58,V,X 9].getD i V,q<59) i hi e h) ⟨⟨H4.out,H5.out,H6.out⟩,fun _=>(aA _ _).drew,fun _=>(aA _ _).drew,False.elim⟩ ?_ ?_
 ·intro i o hi ho a x D hnd hc hD hF seen K hK;clear HQ;have still:∀ i,i≠8->i≠9->dF W F0 b4 b5 b6 b8 #[O U me,J o1 n1 k1,J o2 n2 k2,J o3 n3 k3,J o4 n4 k4,J o5 n5 k5] c d c2 d2 (fun j=>j=i\/D j) x:=fun i h8 h9=>⟨hF.1,fun h=>hF.2.1 fun h2=>h (aN h2),fun h=>hF.2.2.1 fun h2=>h (aN h2),fun h=>hF.2.2.2 (h.resolve_left (Ne.symm h9))⟩;rcases (by omega:i=0\/i=1\/i=2\/i=3\/i=4\/i=5\/i=6\/i=7\/i=8\/i=9\/i=10) with rfl|rfl|rfl|rfl|rfl|rfl|rfl|rfl|rfl|rfl|rfl
  ·cases ho;have e4:a.eval (aG 4)=ak (X ⟨b4,0,V⟩):=seen.kp 4 _ (nd 4 (by decide)) rfl;exact aV rfl rfl (Rg.dZ a.eval _ 33 (aG 4) rfl (by rw [e4]; exact vP hF.1.1)) (hK _ _ rfl (still 0 (by decide) (by decide)) fun _ _ _ _ _ _ _ h=>h)
  ·cases ho;have e13:a.eval (aG 13)=rv:=seen.kp 13 _ (nd 13 (by decide)) rfl;exact aV rfl rfl (Rg.fQ a.eval _ (aG 13) rfl x) (hK _ _ e13 (still 1 (by decide) (by decide)) fun _ _ _ _ _ _ _ h=>h)
  ·cases ho;have e12:a.eval (aG 12)=O U iA:=seen.kp 12 _ (nd 12 (by decide)) rfl;exact aV rfl rfl (Rg.fQ a.eval _ (aG 12) rfl x) (hK _ _ e12 (still 2 (by decide) (by decide)) fun _ _ _ _ _ _ _ h=>h)
  ·cases ho;have e5:a.eval (aG 5)=ak (X ⟨b5,0,V⟩):=seen.kp 5 _ (nd 5 (by decide)) rfl;exact aV rfl rfl (Rg.dZ a.eval _ 38 (aG 5) rfl (by rw [e5]; exact Dl x _ (c,d) (Nh hF.1.2.1))) (hK _ _ rfl (still 3 (by decide) (by decide)) fun _ _ _ _ _ _ _ h=>h)
  ·cases ho;have e6:a.eval (aG 6)=ak (X ⟨b6,0,V⟩):=seen.kp 6 _ (nd 6 (by decide)) rfl;exact aV rfl rfl (Rg.dZ a.eval _ 38 (aG 6) rfl (by rw [e6]; exact Dl x _ (c2,d2) (Nh hF.1.2.2))) (hK _ _ rfl (still 4 (by decide) (by decide)) fun _ _ _ _ _ _ _ h=>h)
  ·cases ho;have e53:a.eval (aG 53)=mY (c,d):=seen.at_ ⟨3,.data⟩ (by simp) rfl (aN (by decide)) _ rfl;have e54:a.eval (aG 54)=mY (c2,d2):=seen.at_ ⟨4,.data⟩ (by simp) rfl (aN (by decide)) _ rfl;exact aV rfl rfl (Rg.iW a.eval _ 43 #[(0,.const (O U 4)),(1,aG 53),(2,aG 54)] rfl (ps:=#[(0,O U 4),(1,mY (c,d)),(2,mY (c2,d2))]) (by simp only [bM,bf,cK,e53,e54]; rfl) (by simp [go_sem])) (hK _ _ rfl (still 5 (by decide) (by decide)) fun _ _ _ _ _ _ _ h=>h)
  ·cases ho;have e52:a.eval (aG 52)=O U iA:=seen.at_ ⟨2,.data⟩ (by simp) rfl (aN (by decide)) _ rfl;have e55:a.eval (aG 55)=aT #[O U 4,O U c,O U d,O U c2,O U d2,J V 0 0,J V 0 0]:=seen.at_ ⟨5,.data⟩ (by simp) rfl (aN (by decide)) _ rfl;exact aV rfl rfl (Rg.iW a.eval _ 58 #[(0,aG 52),(1,aG 55)] rfl (ps:=#[(0,O U iA),(1,aT #[O U 4,O U c,O U d,O U c2,O U d2,J V 0 0,J V 0 0])]) (by simp only [bM,bf,cK,e52,e55]) (by simp [go_sem])) (hK _ _ rfl (still 6 (by decide) (by decide)) fun _ _ _ _ _ _ _ h=>h)
  ·cases ho;have e56:a.eval (aG 56)=Ag (iA,4,c,d,c2,d2,(V,0,0),(V,0,0)):=seen.at_ ⟨6,.data⟩ (by simp) rfl (aN (by decide)) _ rfl;have n8:¬ D 8:=fun h=>hnd (hc 8 _ h rfl ⟨7,.data⟩ (by simp) rfl);have n9:¬ D 9:=fun h=>n8 (hc 9 _ h rfl ⟨8,.chain⟩ (by simp) rfl);have hb:=hF.2.1 n8;have hl:=iD Il x [((iA,4,c,d,c2,d2,(V,0,0),(V,0,0)):qd)] 1 rfl (by simp) (kG (iA,4,c,d,c2,d2,(V,0,0),(V,0,0))).toArray (by simp [flat,EU]);have nb:=fI x (Z (kG (iA,4,c,d,c2,d2,(V,0,0),(V,0,0))).toArray 58);exact aV rfl rfl (Rg.iQ a.eval _ 44 1 #[(0,aG 56)] rfl (ps:=#[(0,Ag (iA,4,c,d,c2,d2,(V,0,0),(V,0,0)))]) (by simp [e56]) (by simp [go_sem])) (hK (J (X ⟨x.heap.size,0,V⟩) 1 1) (x.alloc (Z (kG (iA,4,c,d,c2,d2,(V,0,0),(V,0,0))).toArray 58)) (dJ hl hb.size) ⟨⟨hF.1.1.on nb,hF.1.2.1.on nb,hF.1.2.2.on nb⟩,fun _=>hb.trans (nb.mono hb.size),fun _=>(hb.trans (nb.mono hb.size)).mono FW.out,fun h=>absurd (h.resolve_left (by decide)) n9⟩ fun j u hj dj nl nx ni h=>by
    rcases (by omega:j=0\/j=1\/j=2\/j=3\/j=4\/j=5\/j=6\/j=7\/j=8\/j=9\/j=10) with rfl|rfl|rfl|rfl|rfl|rfl|rfl|rfl|rfl|rfl|rfl
    ·exact h
    ·exact h
    ·exact h
    ·exact h
    ·exact h
    ·exact h
    ·exact h
    ·exact absurd rfl ni
    ·exact absurd dj n8
    ·exact h
    ·exact absurd (hc 10 _ dj rfl ⟨8,.data⟩ (by simp) rfl) n8)
  ·cases ho;have e51:a.eval (aG 51)=rv:=seen.at_ ⟨1,.data⟩ (by simp) rfl (aN (by decide)) _ rfl;have o57:jB x W.heap.size (a.eval (aG 57)) [(iA,4,c,d,c2,d2,(V,0,0),(V,0,0))]:=seen.at_ ⟨7,.data⟩ (by simp) rfl (bO rfl) _ rfl;have hb:=hF.2.1 hnd;have n9:¬ D 9:=fun h=>hnd (hc 9 _ h rfl ⟨8,.chain⟩ (by simp) rfl);have n10:¬ D 10:=fun h=>hnd (hc 10 _ h rfl ⟨8,.data⟩ (by simp) rfl);obtain⟨v',x',r,o',gr⟩:=gG Il F0 (Bk.dG HO.out hb) (aM o57) HL.out (by simp) (aB FW.out hb.size) 44;obtain⟨sa,sc,hsv⟩:=(aM o').len;have hb2:Below F0 W x':=(hb.mono FW.out).grown gr (aB FW.out hb.size) fun j hj=>((Bk.dG HO.out hb).lt j hj).1;have vv:dV W.heap.size F0 (aT #[O U me,J o1 n1 k1,J o2 n2 k2,J o3 n3 k3,J o4 n4 k4,J o5 n5 k5]) rv iA c d c2 d2 lo 8 v' x':=⟨(sa,(lo++[(iA,4,c,d,c2,d2,(V,0,0),(V,0,0))]).length,sc),hsv,o'⟩;have ff:dF W F0 b4 b5 b6 b8 #[O U me,J o1 n1 k1,J o2 n2 k2,J o3 n3 k3,J o4 n4 k4,J o5 n5 k5] c d c2 d2 (fun j=>j=8\/D j) x':=⟨⟨wR H4.out hb2 L4.out,wR H5.out hb2 L5.out,wR H6.out hb2 L6.out⟩,fun h=>absurd (bO rfl) h,fun _=>hb2,fun h=>absurd (h.resolve_left (by decide)) n9⟩;have st:∀ j u,j<11->D j->(fun i=>if i=7 then 8 else 11) j≠8->j≠8->dV W.heap.size F0 (aT #[O U me,J o1 n1 k1,J o2 n2 k2,J o3 n3 k3,J o4 n4 k4,J o5 n5 k5]) rv iA c d c2 d2 lo j u x->dV W.heap.size F0 (aT #[O U me,J o1 n1 k1,J o2 n2 k2,J o3 n3 k3,J o4 n4 k4,J o5 n5 k5]) rv iA c d c2 d2 lo j u x':=fun j u hj dj nx ni h=>by
    rcases (by omega:j=0\/j=1\/j=2\/j=3\/j=4\/j=5\/j=6\/j=7\/j=8\/j=9\/j=10) with rfl|rfl|rfl|rfl|rfl|rfl|rfl|rfl|rfl|rfl|rfl
    ·exact h
    ·exact h
    ·exact h
    ·exact h
    ·exact h
    ·exact h
    ·exact h
    ·exact absurd rfl nx
    ·exact absurd rfl ni
    ·exact h
    ·exact absurd dj n10
   have q:=hK v' x' vv ff fun j u hj dj _ nx ni h=>st j u hj dj nx ni h;exact aV rfl rfl (Rg.gq a.eval _ (aG 51) (aG 57) 44 rfl e51 rfl r) q
  ·cases ho;have e50:a.eval (aG 50)=aT #[O U me,J o1 n1 k1,J o2 n2 k2,J o3 n3 k3,J o4 n4 k4,J o5 n5 k5]:=seen.at_ ⟨0,.data⟩ (by simp) rfl (aN (by decide)) _ rfl;have e8:a.eval (aG 8)=ak (X ⟨b8,0,V⟩):=seen.kp 8 _ (nd 8 (by decide)) rfl;obtain⟨sl,h58,o58⟩:∃ sl:Sl,a.eval (aG 58)=dU sl/\jB x F0 (a.eval (aG 58)) (lo++[(iA,4,c,d,c2,d2,(V,0,0),(V,0,0))]):=seen.at_ ⟨8,.chain⟩ (by simp) rfl (aN (by decide)) _ rfl;have hb:=hF.2.2.1 hnd;have H8x:=wR H8.out hb L8.out;have s4:=dL x b8 (O U me) (J o1 n1 k1) (J o2 n2 k2) (J o3 n3 k3) (J o4 n4 k4) (J o5 n5 k5);have d8:D 8:=hD ⟨8,.chain⟩ (by simp) rfl;have n10:¬ D 10:=fun h=>hnd (hc 10 _ h rfl ⟨9,.chain⟩ (by simp) rfl);have hx:=dM H8x (O U me) (J o1 n1 k1) (J o2 n2 k2) (J o3 n3 k3) (J o4 n4 k4) (J o5 n5 k5);have hy:∀ B,B<=b8->Below B W (gY x b8 (O U me) (J o1 n1 k1) (J o2 n2 k2) (J o3 n3 k3) (J o4 n4 k4) (J o5 n5 k5)):=fun B hB=>dI (hb.mono (Nat.le_of_lt (cu hB L8.out))) hB _ _ _ _ _ _;have hs:=sK H8x me o1 o2 o3 o4 o5 n1 k1 n2 k2 n3 k3 n4 k4 n5 k5;have so:∀ v l,jB x F0 v l->jB (gY x b8 (O U me) (J o1 n1 k1) (J o2 n2 k2) (J o3 n3 k3) (J o4 n4 k4) (J o5 n5 k5)) F0 v l:=fun v l h=>fC h b8 L8.out _ _ _ _ _ _;generalize gY x b8 (O U me) (J o1 n1 k1) (J o2 n2 k2) (J o3 n3 k3) (J o4 n4 k4) (J o5 n5 k5)=x2 at *;have ff:dF W F0 b4 b5 b6 b8 #[O U me,J o1 n1 k1,J o2 n2 k2,J o3 n3 k3,J o4 n4 k4,J o5 n5 k5] c d c2 d2 (fun j=>j=9\/D j) x2:=⟨⟨(s4 b4 N4.out).trans hF.1.1,(s4 b5 N5.out).trans hF.1.2.1,(s4 b6 N6.out).trans hF.1.2.2⟩,fun h=>absurd (aN d8) h,fun h=>absurd (bO rfl) h,fun _=>⟨hx,fun j hj hne=>(s4 j hne).trans (hb.block j hj),hy⟩⟩;have st:∀ j u,j<11->D j->¬ D ((fun i=>if i=7 then 8 else 11) j)->j≠9->dV W.heap.size F0 (aT #[O U me,J o1 n1 k1,J o2 n2 k2,J o3 n3 k3,J o4 n4 k4,J o5 n5 k5]) rv iA c d c2 d2 lo j u x->dV W.heap.size F0 (aT #[O U me,J o1 n1 k1,J o2 n2 k2,J o3 n3 k3,J o4 n4 k4,J o5 n5 k5]) rv iA c d c2 d2 lo j u x2:=fun j u hj dj nl ni h=>by
    rcases (by omega:j=0\/j=1\/j=2\/j=3\/j=4\/j=5\/j=6\/j=7\/j=8\/j=9\/j=10) with rfl|rfl|rfl|rfl|rfl|rfl|rfl|rfl|rfl|rfl|rfl
    ·exact h
    ·exact h
    ·exact h
    ·exact h
    ·exact h
    ·exact h
    ·exact h
    ·exact absurd d8 nl
    ·obtain⟨s,h1,h2⟩:=h;exact⟨s,h1,so _ _ h2⟩
    ·exact h
    ·exact absurd dj n10
   have q:=hK (ah aQ) x2 trivial ff fun j u hj dj nl _ ni h=>st j u hj dj nl ni h;have q2:K a x2:=q;exact Rg.fP 33 (aG 8) (aG 50) rfl rfl rfl rfl e8 e50 hs q2
  ·cases ho;obtain⟨sl,h58,o58⟩:∃ sl:Sl,a.eval (aG 58)=dU sl/\jB x F0 (a.eval (aG 58)) (lo++[(iA,4,c,d,c2,d2,(V,0,0),(V,0,0))]):=seen.at_ ⟨8,.data⟩ (by simp) rfl (aN (by decide)) _ rfl;exact aV rfl rfl (Rg.jM a.eval _ (aG 58) rfl x) (hK _ _ ⟨sl,h58,o58⟩ (still 10 (by decide) (by decide)) fun _ _ _ _ _ _ _ h=>h)
 ·intro a x df sz kp ⟨vs,hv⟩ ⟨D,hall,hF⟩;obtain⟨sl,h1,h2⟩:=(hv 10 (by omega)).2 (by decide);have g9:a.tmps[9]?=X (dU sl):=by
   rw [<- h1];exact (hv 10 (by omega)).1 9 rfl
  obtain⟨e1,e2,e3⟩:=hF.2.2.2 (hall 9 (by omega));rw [h1] at h2;exact HQ.out a x sl df ((kp 8 (nd 8 (by decide))).trans rfl) g9 e1 h2 e2 e3
theorem DW {W W':aK} {k:Nat} {me:Int} {s1 s2 s3 s4 s5:Sl} {v:aP} {l:List iH} {m:List En} (h1:kM W v l) (h2:eH (jd W) l m) (hb:dN W k (jA me s1 s2 s3 s4 s5) 33) (hk:∀ j,j<W.heap.size->j≠k->W'.heap[j]?=W.heap[j]?):kM W' v l/\eH (jd W') l m :=
 ⟨iq lF h1 hk (kQ hb (fun _=>⟨_,_,rfl,rfl⟩) (mP me s1 s2 s3 s4 s5)),h2.mono fun _ _ hx=>⟨hx.1,hx.2.1,hx.2.2.1,hx.2.2.2.1,iq Dk hx.2.2.2.2 hk (oK hb (oL me s1 s2 s3 s4 s5))⟩⟩
theorem jk {W W':aK} {k:Nat} {me:Int} {s1 s2 s3 s4 s5:Sl} {s:Sl} {m:List Ou} (h:lW W s m) (hb:dN W k (jA me s1 s2 s3 s4 s5) 33) (hk:∀ j,j<W.heap.size->j≠k->W'.heap[j]?=W.heap[j]?):lW W' s m:=by
 obtain⟨xs,h1,h2⟩:=h;exact⟨xs,iq Il h1 hk (kQ hb (fun c=>⟨_,_,rfl,rfl⟩) (mP me s1 s2 s3 s4 s5)),h2.mono fun x a hx=>⟨hx.1,hx.2.1,hx.2.2.1,hx.2.2.2.1,iq Dk hx.2.2.2.2.1 hk (oK hb (oL me s1 s2 s3 s4 s5)),hx.2.2.2.2.2⟩⟩
theorem jl (b:Br) (t x:Id) (f:Int):(kE b t x f).1=(takeB b t x f).1:=by
 unfold kE
 split
 ·rfl
 ·split <;> rfl
theorem YU {W:aK} {l:List iH} {m:List En} (t:Int) (h:eH (jd W) l m):eH (tY W) (l.map (Le t)) (m.map (CZ t)):=by
 induction h with
 | nil=>exact .nil
 | cons x _ ih=>exact .cons (adu x t) ih
theorem DX (b:Br) (nv av sv ev ov:Sl) (x s:Id) (f:Int) (w:aK) (h:iI w b nv av sv ev ov) (l2:b.dQ.length<=900) (l3:b.ent.length<=900) (hok:∀ e∈b.ent,dW e.p) (hkn:∀ e∈b.ent,e.tree∈b.dQ.map Ad.id) :
  Calls aH 59 #[mJ b.me nv av sv ev ov,mY x,mY s,O U f] w fun e w'=>(∃ ev' lo:Sl,e=.returned (.tuple #[mJ b.me nv av sv ev' ov,dU lo])/\iI w' (kE b x s f).1 nv av sv ev' ov/\lW w' lo (kE b x s f).2)/\Below w.heap.size w w':=by
 obtain⟨no,nn,nc⟩:=nv;obtain⟨ao,an,ac⟩:=av;obtain⟨so,sn,sc⟩:=sv;obtain⟨eo,en,ec⟩:=ev;obtain⟨oo,eB,oc⟩:=ov;obtain⟨c,d⟩:=x;obtain⟨c2,d2⟩:=s;have TK:=L (fun W hb'=>Qn b (no,nn,nc) (ao,an,ac) (so,sn,sc) (eo,en,ec) (oo,eB,oc) (c,d) (c2,d2) f W (h.on (show Below w.heap.size w W from hb')) l3 hok);have xI:=L h.near;have L2:=L l2;have L3:=L l3;have KN:=L hkn;obtain⟨h0,h1,h2,h3,h4⟩:=wO w #[O U b.me,J no nn nc,J ao an ac,J so sn sc,J eo en ec,J oo eB oc] #[O U c,O U d] #[O U c2,O U d2] #[O U 0,J V 0 0,J V 0 0,J V 0 0,J V 0 0,J V 0 0] 33 38 38 33;obtain⟨me,hme⟩:∃ me,me=b.me:=⟨_,rfl⟩;simp only [<- hme] at h0 h1 h2 h3 h4 TK ⊢;have gU:=L (h0);have yF:=L (h1);have lV:=L (h2);have mR:=L (h3);have CX:=L (h4);clear h0 h1 h2 h3 h4 h l2 l3 hme hok hkn;go_enter Tryz.func59,Tryz.ntmps59;go_upto_region 1 with fail;generalize ((((w.alloc (Z #[O U me,J no nn nc,J ao an ac,J so sn sc,J eo en ec,J oo eB oc] 33)).alloc (Z #[O U c,O U d] 38)).alloc (Z #[O U c2,O U d2] 38)).alloc (Z #[O U 0,J V 0 0,J V 0 0,J V 0 0,J V 0 0,J V 0 0] 33))=W at *;have SW:=L (TK.out W gU.out);clear TK;obtain⟨x0,x1,x2,x3,x4,x5⟩:=yF.out.fB;obtain⟨y0,y1⟩:=lV.out.cs2;obtain⟨z0,z1⟩:=mR.out.cs2;go_wp2_with fail;refine SW.out.mono ?_;rintro e1 w1 ⟨⟨⟨ea,iL,iM⟩,⟨la,ln,lc⟩,rfl,hbr,xs,hrow,hall⟩,hb⟩;clear SW;clear x0 x1 x2 x3 x4 x5 y0 y1 z0 z1;obtain⟨fb,Lg⟩:∃ r,(takeB b (c,d) (c2,d2) f).2.2=r:=⟨_,rfl⟩;have LB:=L Lg;rw [Lg];obtain⟨qa,qc,hq⟩:=hrow.len;obtain rfl:ln=xs.length:=by simpa using congrArg (fun v=>match v with|Value.slice _ n _=>n|_=>0) hq
 obtain⟨ln,hln⟩:∃ n,n=xs.length:=⟨_,rfl⟩;simp only [<- hln] at hrow ⊢;have LN:=L hln.symm;clear hln hq;have jD:=L (gU.out.trans (hb.mono gU.out.size));have oN:=L (yF.out.on hb);have UC:=L (lV.out.on hb);have Gc:=L (mR.out.on hb);have Qp:=L (CX.out.on hb);clear gU yF lV mR CX;obtain⟨k0,k1,k2,k3,k4,k5⟩:=oN.out.fB;obtain⟨rA,rD,rE,rF,rG,rH⟩:=oN.out.kJ;have zz:=oN.out.lt;have FB:=L (dM oN.out (O U me) (J no nn nc) (J ao an ac) (J so sn sc) (J ea iL iM) (J oo eB oc));have B2:=L (dI (b:=w.heap.size) jD.out (aF _) (O U me) (J no nn nc) (J ao an ac) (J so sn sc) (J ea iL iM) (J oo eB oc));have F5:=L (show dN _ _ _ _ from (dL w1 w.heap.size (O U me) (J no nn nc) (J ao an ac) (J so sn sc) (J ea iL iM) (J oo eB oc) (w.heap.size+1) (by omega)).trans UC.out);have F6:=L (show dN _ _ _ _ from (dL w1 w.heap.size (O U me) (J no nn nc) (J ao an ac) (J so sn sc) (J ea iL iM) (J oo eB oc) (w.heap.size+1+1) (by omega)).trans Gc.out);have F8:=L (show dN _ _ _ _ from (dL w1 w.heap.size (O U me) (J no nn nc) (J ao an ac) (J so sn sc) (J ea iL iM) (J oo eB oc) (w.heap.size+1+1+1) (by omega)).trans Qp.out);have HB:=L (fD (s1:=(no,nn,nc)) (s2:=(ao,an,ac)) (s3:=(so,sn,sc)) (s4:=(eo,en,ec)) (s5:=(oo,eB,oc)) hbr oN.out (fun j _ hj=>dL w1 w.heap.size (O U me) (J no nn nc) (J ao an ac) (J so sn sc) (J ea iL iM) (J oo eB oc) j hj) (by rw [(jw b (c,d) (c2,d2) f).2.1]; exact xI.out.on B2.out));have HX:=L (DW (s1:=(no,nn,nc)) (s2:=(ao,an,ac)) (s3:=(so,sn,sc)) (s4:=(eo,en,ec)) (s5:=(oo,eB,oc)) hrow hall oN.out (fun j _ hj=>dL w1 w.heap.size (O U me) (J no nn nc) (J ao an ac) (J so sn sc) (J ea iL iM) (J oo eB oc) j hj));clear Lg hbr hb hrow hall jD oN UC Gc Qp;go_upto_region 2 with fail;clear zz k0 k1 k2 k3 k4 k5 rA rD rE rF rG rH;unfold gY at FB B2 F5 F6 F8 HB HX;generalize ((((((w1.setCell ⟨w.heap.size,0,V⟩ (O U me)).setCell ⟨w.heap.size,1,V⟩ (J no nn nc)).setCell ⟨w.heap.size,2,V⟩ (J ao an ac)).setCell ⟨w.heap.size,3,V⟩ (J so sn sc)).setCell ⟨w.heap.size,4,V⟩ (J ea iL iM)).setCell ⟨w.heap.size,5,V⟩ (J oo eB oc))=w2 at *;have kZ:=L (B2.out);have vR:=L (FB.out);have YV:=L (F5.out);have IW:=L (F6.out);have Aq:=L (F8.out);clear B2 FB F5 F6 F8;cases fb
 ·have x0:=vR.out.cell 0;have x1:=vR.out.cell 1;have x2:=vR.out.cell 2;have x3:=vR.out.cell 3;have x4:=vR.out.cell 4;have x5:=vR.out.cell 5;simp only [aD,aI,aJ] at x0 x1 x2 x3 x4 x5;obtain⟨r0,r1,r2,r3,r4,r5⟩:=Aq.out.fB;obtain⟨DI,DJ,DK,DL,DN,DT⟩:=Aq.out.kJ;have zz:=Aq.out.lt;have GG:=L (dM Aq.out (O U me) (J no nn nc) (J ao an ac) (J so sn sc) (J ea iL iM) (J oo eB oc));have BL:=L (dI (b:=w.heap.size+1+1+1) kZ.out (by omega) (O U me) (J no nn nc) (J ao an ac) (J so sn sc) (J ea iL iM) (J oo eB oc));have HC:=L (fD (s1:=(V,0,0)) (s2:=(V,0,0)) (s3:=(V,0,0)) (s4:=(V,0,0)) (s5:=(V,0,0)) HB.out Aq.out (fun j _ hj=>dL w2 (w.heap.size+1+1+1) (O U me) (J no nn nc) (J ao an ac) (J so sn sc) (J ea iL iM) (J oo eB oc) j hj) (by rw [(jw b (c,d) (c2,d2) f).2.1]; exact xI.out.on BL.out));clear HB HX;go_wp2_with fail;obtain⟨v0,v1,v2,v3,v4,v5⟩:=GG.out.fB;refine aC (v:=.tuple #[aT #[O U me,J no nn nc,J ao an ac,J so sn sc,J ea iL iM,J oo eB oc],J V 0 0]) (by simp [results,dh,go_sem,v0,v1,v2,v3,v4,v5]) rfl ?_;have hd:kE b (c,d) (c2,d2) f=((takeB b (c,d) (c2,d2) f).1,[]):=by unfold kE; rw [if_pos LB.out]
  rw [hd];exact⟨⟨(ea,iL,iM),(V,0,0),rfl,HC.out,ru _⟩,BL.out⟩
 ·obtain⟨e0,he0,ht0⟩:=Lf LB.out;have hmem:(c,d)∈b.dQ.map Ad.id:=ht0 ▸ KN.out e0 he0;obtain⟨k,hk1,hk2⟩:=DF _ _ hmem;rw [bL] at hk2;obtain⟨a,hak⟩:∃ a,b.dQ[k]?=X a:=by
   cases h:b.dQ[k]? with
   | none=>rw [h] at hk2; cases hk2
   | some a=>exact⟨a,rfl⟩
  have DB:=L (show kE b (c,d) (c2,d2) f=((takeB b (c,d) (c2,d2) f).1,(takeB b (c,d) (c2,d2) f).2.1.map (CZ a.par)++[⟨a.par,4,(c,d),(c2,d2),[]⟩]) from by
   unfold kE;rw [if_neg (by rw [LB.out]; simp),hk1,aY,hak])
  clear hk2 hmem he0 ht0 e0;obtain⟨ad,zq,wS⟩:=HB.out.dQ;rw [(jw b (c,d) (c2,d2) f).1] at wS;obtain⟨z,hz1,hz2⟩:=wS.at k a hak;have FD:=uF me (J no nn nc) (J ea iL iM) (J so sn sc) (J oo eB oc) (ao,an,ac) ad (c,d);rw [zS wS,hk1] at FD;obtain⟨q1,q2,hq⟩:=zq.len;obtain⟨rfl,rfl,rfl⟩:ao=q1/\an=ad.length/\ac=q2:=by
   have:J ao an ac=J q1 ad.length q2:=hq;simpa using this
  obtain⟨p,ix,px⟩:=Yh zq rfl rfl hz1;obtain⟨p0,p1,p2,p3⟩:=px w2 (aA _ _);obtain⟨z1,z2,⟨z3,z4,z5⟩,z6⟩:=z;simp only at p0 p1 p2 p3;obtain rfl:z6=a.par:=hz2.2.1;have CE:=L (fun d os=>Calls.regrown_of (d:=d) (os:=os) (FD _ (zq.on (aS w2 d os))));obtain⟨an,han⟩:∃ n,n=ad.length:=⟨_,rfl⟩;clear FD hq px p0 p1 p2;have q3:=aj p3;simp only [<- han] at ix CE vR HB;have HAN:=L han;clear han hz2 hak hk1 wS zq hz1 p3;have a0:=aj (show w2.cell? ⟨w.heap.size,0,V⟩=X (O U me) from vR.out.cell 0);have a1:=aj (show w2.cell? ⟨w.heap.size,1,V⟩=X (J no nn nc) from vR.out.cell 1);have a2:=aj (show w2.cell? ⟨w.heap.size,2,V⟩=X (J ao an ac) from vR.out.cell 2);have a3:=aj (show w2.cell? ⟨w.heap.size,3,V⟩=X (J so sn sc) from vR.out.cell 3);have a4:=aj (show w2.cell? ⟨w.heap.size,4,V⟩=X (J ea iL iM) from vR.out.cell 4);have a5:=aj (show w2.cell? ⟨w.heap.size,5,V⟩=X (J oo eB oc) from vR.out.cell 5);have b0:=aj (show w2.cell? ⟨w.heap.size+1,0,V⟩=X (O U c) from YV.out.cell 0);have b1:=aj (show w2.cell? ⟨w.heap.size+1,1,V⟩=X (O U d) from YV.out.cell 1);go_upto_region 4 with fail;refine wp_region_quiet_below (by kernel_rfl) (by kernel_rfl) ?_
  repeat (go_big_quiet_step (first | (with_reducible exact CE.out _ _)))
  refine wpQuiet_nil ?_;intro _ hw';obtain⟨⟨dq,osq⟩,hw''⟩:=hw';subst hw'';have Z6:=aS w2 dq osq;have HB2:=L (HB.out.on Z6);have HX2:=L (show kM _ _ _/\eH (jd _) _ _ from ⟨HX.out.1.on Z6,HX.out.2.mono fun _ _ h=>h.on Z6⟩);have aaw:=L (kZ.out.trans (Z6.mono kZ.out.size));have aax:=L (vR.out.on Z6);have aay:=L (YV.out.on Z6);have aaz:=L (IW.out.on Z6);have qz:=L (Aq.out.on Z6);clear kZ vR YV IW Aq;clear Z6 HB HX CE ix q3 a0 a1 a2 a3 a4 a5 b0 b1;generalize grow (cB w2 dq) osq=w3 at *;generalize a.par=iA at *;go_wp2_with fail
  go_loopw [13,38] (fun v i wr=>∃ k:Nat,k<=ln/\i=O U k/\Below w3.heap.size w3 wr/\jB wr w3.heap.size v ((xs.take k).map (Le iA))) (fun _ i _=>ln-(intOf i).toNat)
  case atStart=>exact⟨0,bS _,rfl,aA _ _,gB _ _⟩
  case round =>
   obtain⟨k,hk,rfl,hbe,hown⟩:=hrel;have BE:=L hbe;have OE:=L hown;clear hbe hown;have L9:=L (show ln<=900 from by have h1:=HX2.out.2.len; rw [LN.out] at h1; rw [h1]; exact aB (rz b (c,d) (c2,d2) f).2 L3.out);have l9:=L9.out;by_cases hlt:k<ln
   ·have hlt':(k:Int)<(ln:Int):=by omega
    have hw:IntKind.i64.wrap ((k:Int)+1)=(k:Int)+1:=bI _ (by omega);obtain⟨y,hy⟩:∃ y,xs[k]?=X y:=⟨_,au (by rw [LN.out]; exact hlt)⟩;obtain⟨p,ix,px⟩:=Pv HX2.out.1 rfl LN.out hy;obtain⟨p0,p1,p2,p3,p4,p5,p6⟩:=px wr BE.out;have TKY:=L (show (xs.take (k+1)).map (Le iA)=(xs.take k).map (Le iA)++[Le iA y] from by rw [cO,hy]; simp);obtain⟨y1,y2,y3,y4,⟨yo,yn,yc⟩,y6,y7⟩:=y;simp only at p0 p1 p2 p3 p4 p5 p6;clear px hy;go_upto_region 9 with fail;clear p0 p1 p2 p3 p4 p5 p6 ix;have NN:=fI wr (Z #[O U y1,O U y2,O U y3,O U y4,J yo yn yc,O U y6,ah y7] 68);have XE:=dO wr #[O U y1,O U y2,O U y3,O U y4,J yo yn yc,O U y6,ah y7] 68;have UD:=L (BE.out.trans (NN.mono BE.out.size));have PG:=L (Bk.dG OE.out NN);clear BE OE NN;generalize wr.alloc (Z #[O U y1,O U y2,O U y3,O U y4,J yo yn yc,O U y6,ah y7] 68)=wa at *;obtain⟨c0_,c1_,c2_,c3_,c4_,c5_,c6_⟩:=XE.oI;have SB:=zD (y1,y2,y3,y4,(yo,yn,yc),y6,y7) wa;go_wp2_with fail;refine SB.mono ?_;rintro e3 wb ⟨rfl,hb⟩;clear SB XE c0_ c1_ c2_ c3_ c4_ c5_ c6_;have BE3:=L (UD.out.trans (hb.mono UD.out.size));have OE3:=L (Bk.dG PG.out hb);clear hb UD PG;have hl:=iD Il wb [((iA,3,y1,y2,y3,y4,(yo,yn,yc),(V,0,0)):qd)] 1 rfl (by simp) #[O U iA,O U 3,O U y1,O U y2,O U y3,O U y4,J yo yn yc,J V 0 0] (by rfl);have NB:=fI wb (Z #[O U iA,O U 3,O U y1,O U y2,O U y3,O U y4,J yo yn yc,J V 0 0] 58);obtain⟨v',x5,q2,o2,g2⟩:=gG Il w3.heap.size (Bk.dG OE3.out NB) (aM hl) (by rw [aL,aZ]; omega) (by simp) (aB BE3.out.size NB.size) 44;have q2:(aX #[44,44] 44 #[u13,J (X ⟨wb.heap.size,0,V⟩) 1 1]).run aH (wb.alloc (Z #[O U iA,O U 3,O U y1,O U y2,O U y3,O U y4,J yo yn yc,J V 0 0] 58))=.ok v' x5:=q2;have BX:=L ((BE3.out.trans (NB.mono BE3.out.size)).grown g2 (aB BE3.out.size NB.size) (fun j hj=>((Bk.dG OE3.out NB).lt j hj).1));have O2:=L o2;clear hl NB o2 g2;go_wp2_with (first | (at_builtin; refine wpList_append_run rfl _ _ 44 rfl rfl rfl q2 ?_) | fail)
    go_roundw
    case rel=>exact⟨k+1,hlt,by go_num,BX.out,by rw [TKY.out]; exact O2.out⟩
    case measure=>simp [intOf]; omega
   ·obtain rfl:k=ln:=by omega
    have ht:xs.take k=xs:=bN (by rw [LN.out]; exact aF _);rw [ht] at OE;clear ht;go_upto_region 11 with fail;refine UA _ wr w3.heap.size w.heap.size (w.heap.size+1) (w.heap.size+1+1) (w.heap.size+1+1+1) me iA c d c2 d2 no ao so ea oo nn nc an ac sn sc iL iM eB oc u13 (xs.map (Le iA)) _ _ _ _ _ _ _ _ _ _ _ _ _ _ _ _ _ _ _ _ _ _ _ _ _ _ _ _ _ _ _ _ _ _ _ _ _ _ _ _ _ _ _ _ _ _ _ _ _ _ _ _ _ _ _ _ _ _ _ (aax.out.on BE.out) (aay.out.on BE.out) (aaz.out.on BE.out) (qz.out.on BE.out) aax.out.lt aay.out.lt aaz.out.lt qz.out.lt (by omega) (by omega) (by omega) BE.out.size OE.out (by rw [aL,LN.out]; omega) ?_;intro a9 x9 sl II h69 h79 hbx ho hblk hbl;have BL:=L (show Below w.heap.size w x9 from (aaw.out.trans (BE.out.mono aaw.out.size)).trans (hbl w.heap.size (by omega)));have HK:=L (show ∀ j,j<w3.heap.size->j≠w.heap.size+1+1+1->x9.heap[j]?=w3.heap[j]? from fun j hj hne=>(hblk j hj hne).trans (BE.out.block j hj));have HC:=L (fD (s1:=(V,0,0)) (s2:=(V,0,0)) (s3:=(V,0,0)) (s4:=(V,0,0)) (s5:=(V,0,0)) HB2.out qz.out HK.out (by rw [(jw b (c,d) (c2,d2) f).2.1]; exact xI.out.on BL.out));have HX3:=L (DW (s1:=(V,0,0)) (s2:=(V,0,0)) (s3:=(V,0,0)) (s4:=(V,0,0)) (s5:=(V,0,0)) HX2.out.1 HX2.out.2 qz.out HK.out);have HU:=L (aM ho);obtain⟨v0,v1,v2,v3,v4,v5⟩:=hbx.fB;clear hbx ho hblk hbl HB2 HX2 BE OE;simp only [Exit.then]
    apply_assumption
    go_wp2_with fail;refine aC (v:=.tuple #[aT #[O U me,J no nn nc,J ao an ac,J so sn sc,J ea iL iM,J oo eB oc],dU sl]) (by simp [results,dh,go_sem,h69,h79,v0,v1,v2,v3,v4,v5]) II ?_;have h9:=HAN.out;subst h9;rw [DB.out];exact⟨⟨(ea,iL,iM),sl,rfl,HC.out,_,HU.out,(YU iA HX3.out.2).append (.cons ⟨rfl,rfl,rfl,rfl,je _,rfl⟩ .nil)⟩,BL.out⟩
theorem wT {α:Type} {E:Ek α} (K:E.Ok) {w:aK} (B:Nat) {v x:aP} {l m:List α} (hown:Own E w B v l) (hx:Row E w x m) (hn:l.length<=1000000) (hm:m.length<=1000000) (hB:B<=w.heap.size) (ty:TypeId) :
  ∃ v' w',(aX #[E.ts,E.ts] ty #[v,x]).run aH w=.ok v' w'/\Own E w' B v' (l++m)/\w.grownBy w' v.ownBlock:=by
 obtain⟨i,i1,i2,i3,i4⟩:=K.info;rcases hx with⟨rfl,rfl⟩|⟨ad,c,rfl,h2,h3,h4⟩
 ·exact⟨v,w,run_append_owned_none (P:=aH) (w:=w) B E.ts ty E.t i E.n K.hu i1 v _ _ hown,by simpa using hown,sF _ _⟩
 ·have hf:=K.few;obtain⟨v',w',r1,r2,r3,_⟩:=run_append_own (P:=aH) w B E.ts ty E.t i E.z E.n E.bytes K.hu i1 i2 i3 i4 K.zs K.pos v _ _ hown ad m.length c (flat E m) (eF K m) h4 (oU K m) (by unfold maxLen; omega)
   (aB (dn (show l.length+m.length<=2000000 by omega) hf) (by decide)) hB
  exact⟨v',w',r1,by rw [Own,aU,gI]; exact r2,r3⟩
def Gd (B:Nat) (_ _:Nat) (me:Int) (o1 o2 o3 o4 o5:Option bW) (n1 k1 n2 k2 n3 k3 n4 k4 n5 k5:Nat) (so iA:Option bW) (sn sc tn tc:Nat) (lo ls:List qd) (_ _ _ _ _ _:aP) (i:Nat) (v:aP) (x:aK):Prop :=
 match i with
 | 0=>v=aT #[O U me,J o1 n1 k1,J o2 n2 k2,J o3 n3 k3,J o4 n4 k4,J o5 n5 k5]
 | 1=>jB x B v []
 | 2=>v=J so sn sc
 | 3=>jB x B v lo
 | 4=>v=J iA tn tc
 | 5=>jB x B v (lo++ls)
 | _=>True
noncomputable def UF:Code:=((Tryz.f28.body.bind (eP 16)).getD .skip)
theorem Qq (B:Nat) (b2 b12:Nat) (me:Int) (o1 o2 o3 o4 o5:Option bW) (n1 k1 n2 k2 n3 k3 n4 k4 n5 k5:Nat) (so iA:Option bW) (sn sc tn tc:Nat) (lo ls:List qd) (z0 z1 z2 z3 z4 z5:aP) (i:Nat) (v:aP) (x x':aK) (h:Gd B b2 b12 me o1 o2 o3 o4 o5 n1 k1 n2 k2 n3 k3 n4 k4 n5 k5 so iA sn sc tn tc lo ls z0 z1 z2 z3 z4 z5 i v x) (hb:Below x.heap.size x x'):Gd B b2 b12 me o1 o2 o3 o4 o5 n1 k1 n2 k2 n3 k3 n4 k4 n5 k5 so iA sn sc tn tc lo ls z0 z1 z2 z3 z4 z5 i v x':=by
 by_cases hi:i<6
 ·rcases (by omega:i=0\/i=1\/i=2\/i=3\/i=4\/i=5) with rfl|rfl|rfl|rfl|rfl|rfl
  ·exact h
  ·exact dG h hb
  ·exact h
  ·exact dG h hb
  ·exact h
  ·exact dG h hb
 ·unfold Gd
  split <;> first | omega | trivial
theorem afo (Q:Exit->Act->aK->Prop) (W:aK) (b2 b12:Nat) (me:Int) (o1 o2 o3 o4 o5:Option bW) (n1 k1 n2 k2 n3 k3 n4 k4 n5 k5:Nat) (so iA:Option bW) (sn sc tn tc:Nat) (lo ls:List qd) (z0 z1 z2 z3 z4 z5:aP) (u0 u1 u3 u4 u5 u6 u7 u8 u10 u11 u14 u15 u16 u17 u18 u19 u20 u21 u22 u23 u24 u25 u26 u27 u28 u29 u30 u31 u32 u33 u34 u35 u36 u37 u38 u39 u40 u41 u42 u43 u44 u45 u46 u47 u48 u49 u50 u51 u52 u53 u54 u55 u56 u57 u58 u59 u60 u61 u62:aP)
  (h2:dN W b2 #[z0,z1,z2,z3,z4,z5] 33) (h12:dN W b12 #[O U me,J o1 n1 k1,J o2 n2 k2,J o3 n3 k3,J o4 n4 k4,J o5 n5 k5] 33) (wm:Qh W (J so sn sc) lo) (rls:Qh W (J iA tn tc) ls) (l9:lo.length<=1000000) (s9:ls.length<=1000000)
  (hQ:∀ (x:aK) (w9:aP) (v54 v55 v56 v57 v58 v59:aP),dN x b2 #[O U me,J o1 n1 k1,J o2 n2 k2,J o3 n3 k3,J o4 n4 k4,J o5 n5 k5] 33->jB x W.heap.size w9 (lo++ls)->(∀ j,j<W.heap.size->j≠b2->x.heap[j]?=W.heap[j]?)->(∀ B,B<=b2->Below B W x)->Q .normal ⟨(u0::u1::ak (X ⟨b2,0,V⟩)::u3::u4::u5::u6::u7::u8::w9::u10::u11::ak (X ⟨b12,0,V⟩)::J iA tn tc::u14::u15::u16::u17::u18::u19::u20::u21::u22::u23::u24::u25::u26::u27::u28::u29::u30::u31::u32::u33::u34::u35::u36::u37::u38::u39::u40::u41::u42::u43::u44::u45::u46::u47::u48::u49::u50::u51::u52::u53::v54::v55::v56::v57::v58::v59::u60::u61::u62::[]).toArray,[]⟩ x) :
  Code.wp aH UF Q ⟨(u0::u1::ak (X ⟨b2,0,V⟩)::u3::u4::u5::u6::u7::u8::J so sn sc::u10::u11::ak (X ⟨b12,0,V⟩)::J iA tn tc::u14::u15::u16::u17::u18::u19::u20::u21::u22::u23::u24::u25::u26::u27::u28::u29::u30::u31::u32::u33::u34::u35::u36::u37::u38::u39::u40::u41::u42::u43::u44::u45::u46::u47::u48::u49::u50::u51::u52::u53::u54::u55::u56::u57::u58::u59::u60::u61::u62::[]).toArray,[]⟩ W:=by
 have HQ:=L hQ;have H2:=L h2;have H12:=L h12;have RLO:=L wm;have RLS:=L rls;have LO:=L l9;have LS:=L s9;clear hQ h2 h12 wm rls l9 s9;have iN:=Qq W.heap.size b2 b12 me o1 o2 o3 o4 o5 n1 k1 n2 k2 n3 k3 n4 k4 n5 k5 so iA sn sc tn tc lo ls z0 z1 z2 z3 z4 z5;unfold UF
 conv=>arg 2; whnf
 have nd:∀ j,(∀ i,i<6->[54,55,56,57,58,59].getD i 0≠j)->∀ i,i<6->(fun i=>[54,55,56,57,58,59].getD i 0) i≠j:=fun j h=>h;refine Rg.fM 8 6 (fun i=>[54,55,56,57,58,59].getD i 0) (fun i=>if i=1 then 3 else if i=3 then 5 else 6) (Gd W.heap.size b2 b12 me o1 o2 o3 o4 o5 n1 k1 n2 k2 n3 k3 n4 k4 n5 k5 so iA sn sc tn tc lo ls z0 z1 z2 z3 z4 z5) (by kernel_rfl) (by kernel_rfl) rfl (by decide) (fun i j hi hj h=>(by decide:∀ i,i<6->∀ j,j<6->[54,55,56,57,58,59].getD i 0=[54,55,56,57,58,59].getD j 0->i=j) i hi j hj h) (fun i hi=>(by decide:∀ i,i<6->[54,55,56,57,58,59].getD i 0<63) i hi) ?_ (fun _=>Rg.jq 14 (by kernel_rfl)) ?_ ?_
 ·intro i o hi ho a x D hnd hc hD hb seen K hK;clear HQ;rcases (by omega:i=0\/i=1\/i=2\/i=3\/i=4\/i=5) with rfl|rfl|rfl|rfl|rfl|rfl
  ·cases ho;have e12:a.eval (aG 12)=ak (X ⟨b12,0,V⟩):=seen.kp 12 _ (nd 12 (by decide)) rfl;obtain⟨y0,y1,y2,y3,y4,y5⟩:=(H12.out.on hb).fB;exact aV rfl rfl (Rg.dZ a.eval _ 33 (aG 12) rfl (by rw [e12]; simp [go_sem,y0,y1,y2,y3,y4,y5])) (hK _ _ rfl (aA _ _) fun _ _ _ _ _ _ _ h=>h)
  ·cases ho;have nb:=fI x (Z #[] 58);have hl:=nP (B':=W.heap.size) hb.size (Hg (E:=EU) x);exact aV rfl rfl (Rg.iQ a.eval _ 44 0 #[] rfl rfl (by simp [go_sem])) (hK (J (X ⟨x.heap.size,0,V⟩) 0 0) (x.alloc (Z #[] 58)) hl (nb.mono hb.size) fun j u _ _ _ _ _ h=>iN j u _ _ h nb)
  ·cases ho;have e9:a.eval (aG 9)=J so sn sc:=seen.kp 9 _ (nd 9 (by decide)) rfl;exact aV rfl rfl (Rg.fQ a.eval _ (aG 9) rfl x) (hK _ _ e9 (aA _ _) fun _ _ _ _ _ _ _ h=>h)
  ·cases ho;have E55:=seen.at_ ⟨1,.data⟩ (by simp) rfl (bO rfl);have e56:a.eval (aG 56)=J so sn sc:=seen.at_ ⟨2,.data⟩ (by simp) rfl (aN (by decide));have o55:jB x W.heap.size (a.eval (aG 55)) []:=E55;obtain⟨v',x',r,o',gr⟩:=wT Il W.heap.size o55 (RLO.out.on hb) (by simp) LO.out hb.size 44;have o'':jB x' W.heap.size v' lo:=by simpa using o'
   exact aV rfl rfl (Rg.gq a.eval _ (aG 55) (aG 56) 44 rfl rfl e56 r) (hK v' x' o'' ((aA _ x).grown gr hb.size fun j hj=>(o55.lt j hj).1) fun j u hj dj nl nx ni h=>by
    rcases (by omega:j=0\/j=1\/j=2\/j=3\/j=4\/j=5) with rfl|rfl|rfl|rfl|rfl|rfl
    ·exact h
    ·exact absurd rfl nx
    ·exact h
    ·exact absurd rfl ni
    ·exact h
    ·exact absurd (hc 5 _ dj rfl ⟨3,.data⟩ (by simp) rfl) hnd)
  ·cases ho;have e13:a.eval (aG 13)=J iA tn tc:=seen.kp 13 _ (nd 13 (by decide)) rfl;exact aV rfl rfl (Rg.fQ a.eval _ (aG 13) rfl x) (hK _ _ e13 (aA _ _) fun _ _ _ _ _ _ _ h=>h)
  ·cases ho;have E57:=seen.at_ ⟨3,.data⟩ (by simp) rfl (bO rfl);have e58:a.eval (aG 58)=J iA tn tc:=seen.at_ ⟨4,.data⟩ (by simp) rfl (aN (by decide));have o57:jB x W.heap.size (a.eval (aG 57)) lo:=E57;obtain⟨v',x',r,o',gr⟩:=wT Il W.heap.size o57 (RLS.out.on hb) LO.out LS.out hb.size 44;have d3:D 3:=hD ⟨3,.data⟩ (by simp) rfl;exact aV rfl rfl (Rg.gq a.eval _ (aG 57) (aG 58) 44 rfl rfl e58 r) (hK v' x' o' ((aA _ x).grown gr hb.size fun j hj=>(o57.lt j hj).1) fun j u hj dj nl nx ni h=>by
    rcases (by omega:j=0\/j=1\/j=2\/j=3\/j=4\/j=5) with rfl|rfl|rfl|rfl|rfl|rfl
    ·exact h
    ·exact absurd d3 nl
    ·exact h
    ·exact absurd rfl nx
    ·exact h
    ·exact absurd rfl ni)
 ·intro kk o h1 h2 ho;rcases (by omega:kk=7) with rfl
  ·cases ho;exact⟨⟨6,.chain⟩,by simp,rfl,rfl⟩
 ·intro a w' df sz kp ⟨vs,hv⟩ hb;have sz':a.tmps.size=63:=sz;have g2:a.tmps[2]?=X (ak (X ⟨b2,0,V⟩)):=(kp 2 (nd 2 (by decide))).trans rfl;have g54:a.tmps[54]?=X (aT #[O U me,J o1 n1 k1,J o2 n2 k2,J o3 n3 k3,J o4 n4 k4,J o5 n5 k5]):=by
   have h:vs 0=aT #[O U me,J o1 n1 k1,J o2 n2 k2,J o3 n3 k3,J o4 n4 k4,J o5 n5 k5]:=(hv 0 (by omega)).2 (by decide);rw [<- h];exact (hv 0 (by omega)).1
  have g59:a.tmps[59]?=X (vs 5):=(hv 5 (by omega)).1;have G59:=(hv 5 (by omega)).2 (by decide);have o59:jB w' W.heap.size (vs 5) (lo++ls):=G59;generalize vs 5=v' at *;have H2x:=H2.out.on hb;have lt2:=H2.out.lt;show Rg.fF _ _ _ 2 6 a w';simp only [Rg.fF];refine Rg.fP 33 (aG 2) (aG 54) rfl rfl rfl rfl (Rg.dK g2) (Rg.dK g54) (w':=gY w' b2 (O U me) (J o1 n1 k1) (J o2 n2 k2) (J o3 n3 k3) (J o4 n4 k4) (J o5 n5 k5)) (sK H2x me _ _ _ _ _ _ _ _ _ _ _ _ _ _ _) ?_;refine aV rfl rfl (Rg.jM a.eval _ (aG 59) rfl _) ?_;show Q .normal (a.put (X 9) (a.eval (aG 59))) _;rw [Rg.dK g59];have hx:=dM H2x (O U me) (J o1 n1 k1) (J o2 n2 k2) (J o3 n3 k3) (J o4 n4 k4) (J o5 n5 k5);have ho:=fC o59 b2 lt2 (O U me) (J o1 n1 k1) (J o2 n2 k2) (J o3 n3 k3) (J o4 n4 k4) (J o5 n5 k5);have hk:∀ j,j<W.heap.size->j≠b2->(gY w' b2 (O U me) (J o1 n1 k1) (J o2 n2 k2) (J o3 n3 k3) (J o4 n4 k4) (J o5 n5 k5)).heap[j]?=W.heap[j]?:=fun j hj hne=>(dL w' b2 (O U me) (J o1 n1 k1) (J o2 n2 k2) (J o3 n3 k3) (J o4 n4 k4) (J o5 n5 k5) j hne).trans (hb.block j hj);have hbl:∀ B,B<=b2->Below B W (gY w' b2 (O U me) (J o1 n1 k1) (J o2 n2 k2) (J o3 n3 k3) (J o4 n4 k4) (J o5 n5 k5)):=fun B hB=>dI (hb.mono (Nat.le_of_lt (cu hB lt2))) hB _ _ _ _ _ _;obtain⟨sa,iV,hsv⟩:=(aM ho).len;generalize gY w' b2 (O U me) (J o1 n1 k1) (J o2 n2 k2) (J o3 n3 k3) (J o4 n4 k4) (J o5 n5 k5)=x2 at *;have ka:∀ j,j≠9->(a.put (X 9) v').tmps[j]?=a.tmps[j]?:=fun j h1=>by rw [dw _ _ _ _ (by omega)]
  have kt:(a.put (X 9) v').tmps[9]?=X (v'):=by simp [bV,sz']
  have sI:∀ j,(j<54\/60<=j)->(a.put (X 9) v').tmps[j]?=(u0::u1::ak (X ⟨b2,0,V⟩)::u3::u4::u5::u6::u7::u8::v'::u10::u11::ak (X ⟨b12,0,V⟩)::J iA tn tc::u14::u15::u16::u17::u18::u19::u20::u21::u22::u23::u24::u25::u26::u27::u28::u29::u30::u31::u32::u33::u34::u35::u36::u37::u38::u39::u40::u41::u42::u43::u44::u45::u46::u47::u48::u49::u50::u51::u52::u53::u54::u55::u56::u57::u58::u59::u60::u61::u62::[])[j]?:=fun j hj=>by
   by_cases hj2:j=9
   ·subst hj2;exact kt
   ·have hs:(u0::u1::ak (X ⟨b2,0,V⟩)::u3::u4::u5::u6::u7::u8::v'::u10::u11::ak (X ⟨b12,0,V⟩)::J iA tn tc::u14::u15::u16::u17::u18::u19::u20::u21::u22::u23::u24::u25::u26::u27::u28::u29::u30::u31::u32::u33::u34::u35::u36::u37::u38::u39::u40::u41::u42::u43::u44::u45::u46::u47::u48::u49::u50::u51::u52::u53::u54::u55::u56::u57::u58::u59::u60::u61::u62::[]:List aP)=(u0::u1::ak (X ⟨b2,0,V⟩)::u3::u4::u5::u6::u7::u8::J so sn sc::u10::u11::ak (X ⟨b12,0,V⟩)::J iA tn tc::u14::u15::u16::u17::u18::u19::u20::u21::u22::u23::u24::u25::u26::u27::u28::u29::u30::u31::u32::u33::u34::u35::u36::u37::u38::u39::u40::u41::u42::u43::u44::u45::u46::u47::u48::u49::u50::u51::u52::u53::u54::u55::u56::u57::u58::u59::u60::u61::u62::[]).set 9 (v'):=rfl;rw [hs,bU (Ne.symm hj2)];exact (ka j hj2).trans ((kp j (nd j fun i hi h=>by have:=(by decide:∀ i,i<6->54<=[54,55,56,57,58,59].getD i 0/\[54,55,56,57,58,59].getD i 0<60) i hi; omega)).trans aD)
  obtain⟨mid,hmid,hfr⟩:=Rg.gF (a:=a.put (X 9) v') 54 6 (by simp [bV,df]) (by simp [bV,sz']) (by simp) sI;rw [hfr]
  match mid,hmid with
  | [v54,v55,v56,v57,v58,v59],_ =>
   exact HQ.out x2 _ _ _ _ _ _ _ hx ho hk hbl
theorem yG {b:Br} (t x:Id) (f:Int) (R:En->Prop) (hR:∀ e,e.tree=t->R e->R (Cv e)) (h:∀ e∈b.ent,R e):(∀ e∈(takeB b t x f).1.ent,R e)/\∀ e∈(takeB b t x f).2.1,R e:=by
 unfold takeB
 split
 ·exact⟨h,fun e he=>by simp at he⟩
 ·split
  ·exact⟨h,fun e he=>by simp at he⟩
  ·split
   ·exact⟨h,fun e he=>by simp at he⟩
   ·split
    ·exact⟨fun e he=>h e (oM he),fun e he=>by simp at he⟩
    ·exact yE R hR (fun e he=>h e (oM he)) _
theorem DY (b:Br) (t x:Id) (f:Int):(kE b t x f).2.length<=b.ent.length+1:=by
 unfold kE;have h:=(rz b t x f).2
 split
 ·simp
 ·split
  ·simp
  ·rw [aU,aL];simp;omega
def D5 (x:Id) (s:Br×List Ou) (t:Id):Br×List Ou:=((kE s.1 t x (-1)).1,s.2++(kE s.1 t x (-1)).2)
def vS (b:Br) (x:Id):List Ow:=b.own.filter fun o=>decide (o.id≠x)
def jT (b:Br) (x:Id) (k:Nat):Br×List Ou:=((b.dQ.map Ad.id).take k).foldl (D5 x) ({ b with own:=vS b x },[])
def iZ (b:Br) (x:Id):Br×List Ou:=if (vS b x).length=b.own.length then (b,[]) else jT b x b.dQ.length
theorem lZ (b:Br) (x:Id) {k:Nat} {a:Ad} (h:b.dQ[k]?=X a):jT b x (k+1)=D5 x (jT b x k) a.id:=by
 unfold jT;rw [cO,bL,h,List.foldl_append]
 rfl
structure UnI (b0 b:Br) (o:List Ow):Prop where
 me:b.me=b0.me
 near:b.near=b0.near
 dQ:b.dQ=b0.dQ
 seen:b.seen=b0.seen
 own:b.own=o
 len:b.ent.length<=b0.ent.length
theorem UnI.drop {b0 b:Br} {o:List Ow} (h:UnI b0 b o) (t x:Id) (f:Int):UnI b0 (kE b t x f).1 o:=by
 rw [jl];obtain⟨h1,h2,h3,h4,h5⟩:=jw b t x f;exact⟨h3.trans h.me,h2.trans h.near,h1.trans h.dQ,h4.trans h.seen,h5.trans h.own,aB (rz b t x f).1 h.len⟩
theorem rJ (b:Br) (x:Id):∀ k,k<=b.dQ.length->UnI b (jT b x k).1 (vS b x)/\(jT b x k).2.length<=k * (b.ent.length+1)
 | 0,_=>⟨⟨rfl,rfl,rfl,rfl,rfl,aF _⟩,by simp [jT]⟩
 | k+1,hk=>by
  obtain⟨a,ha⟩:∃ a,b.dQ[k]?=X a:=⟨_,au hk⟩;obtain⟨h1,h2⟩:=rJ b x k (by omega);rw [lZ b x ha];refine⟨h1.drop _ _ _,?_⟩;show ((jT b x k).2++(kE (jT b x k).1 a.id x (-1)).2).length<=_;have h3:=DY (jT b x k).1 a.id x (-1);have h4:=h1.len;rw [aU,Nat.add_mul];omega
theorem sN (b:Br) (x:Id) (R:En->Prop) (hR:∀ e,R e->R (Cv e)) (h:∀ e∈b.ent,R e):∀ k,k<=b.dQ.length->∀ e∈(jT b x k).1.ent,R e
 | 0,_=>h
 | k+1,hk=>by
  obtain⟨a,ha⟩:∃ a,b.dQ[k]?=X a:=⟨_,au hk⟩;rw [lZ b x ha];show ∀ e∈(kE _ _ _ _).1.ent,R e;rw [jl];exact (yG _ _ _ R (fun e _=>hR e) (sN b x R hR h k (by omega))).1
theorem Au {W W':aK} {k:Nat} {me:Int} {s1 s2 s3 s4 s5:Sl} {l:List qd} {m:List Ou} (h:eH (tY W) l m) (hb:dN W k (jA me s1 s2 s3 s4 s5) 33) (hk:∀ j,j<W.heap.size->j≠k->W'.heap[j]?=W.heap[j]?):eH (tY W') l m :=
 h.mono fun _ _ hx=>⟨hx.1,hx.2.1,hx.2.2.1,hx.2.2.2.1,iq Dk hx.2.2.2.2.1 hk (oK hb (oL me s1 s2 s3 s4 s5)),hx.2.2.2.2.2⟩
def keepW (x:Id) (o:pK):Bool:=decide ((o.1,o.2.1)≠x)
theorem IY (b:Br) (nv av sv ev ov:Sl) (x:Id) (w:aK) (h:iI w b nv av sv ev ov) (l2:b.dQ.length<=900) (l3:b.ent.length<=900) (l4:b.own.length<=900) (hok:∀ e∈b.ent,dW e.p) (hkn:∀ e∈b.ent,e.tree∈b.dQ.map Ad.id) :
  Calls aH 28 #[mJ b.me nv av sv ev ov,mY x] w fun e w'=>(∃ ev' Ul lo:Sl,e=.returned (.tuple #[mJ b.me nv av sv ev' Ul,dU lo])/\iI w' (iZ b x).1 nv av sv ev' Ul/\lW w' lo (iZ b x).2)/\Below w.heap.size w w':=by
 obtain⟨no,nn,nc⟩:=nv;obtain⟨ao,an,ac⟩:=av;obtain⟨so,sn,sc⟩:=sv;obtain⟨eo,en,ec⟩:=ev;obtain⟨oo,eB,oc⟩:=ov;obtain⟨c,d⟩:=x;obtain⟨ws,hw1,hw2⟩:=h.own;obtain⟨q1,q2,hq⟩:=hw1.len;obtain⟨rfl,rfl,rfl⟩:oo=q1/\eB=ws.length/\oc=q2:=by
  have:J oo eB oc=J q1 ws.length q2:=hq;simpa using this
 have HH:=L h;have L2:=L l2;have L3:=L l3;have WL:=L (show ws.length<=900 from by rw [hw2.len]; exact l4);have HW2:=L hw2;have OK:=L hok;have KN:=L hkn;obtain⟨eB,hon⟩:∃ n,n=ws.length:=⟨_,rfl⟩;simp only [<- hon] at HH hw1 ⊢;have N5:=L hon;obtain⟨h0,h1,h2,h3⟩:=gX w #[O U b.me,J no nn nc,J ao an ac,J so sn sc,J eo en ec,J oo eB oc] #[O U c,O U d] #[O U 0,J V 0 0,J V 0 0,J V 0 0,J V 0 0,J V 0 0] 33 38 33;obtain⟨me,hme⟩:∃ me,me=b.me:=⟨_,rfl⟩;simp only [<- hme] at h0 h1 h2 h3 ⊢;have gU:=L (h0);have adw:=L (h1);have YW:=L (h2);have adx:=L (h3);have Lh:=L (hw1.on h0);have ME:=L hme;clear h0 h1 h2 h3 h l2 l3 l4 hme hok hkn hw1 hw2 hq hon;show Calls aH 28 #[aT #[O U me,J no nn nc,J ao an ac,J so sn sc,J eo en ec,J oo eB oc],aT #[O U c,O U d]] w _;go_enter Tryz.func28,Tryz.ntmps28;go_upto_region 1 with fail;generalize (((w.alloc (Z #[O U me,J no nn nc,J ao an ac,J so sn sc,J eo en ec,J oo eB oc] 33)).alloc (Z #[O U c,O U d] 38)).alloc (Z #[O U 0,J V 0 0,J V 0 0,J V 0 0,J V 0 0,J V 0 0] 33))=W at *;have W4:=L (show w.heap.size+3<=W.heap.size from by have:=adx.out.lt; omega);obtain⟨x0,x1,x2,x3,x4,x5⟩:=adw.out.fB;go_wp2_with fail;clear x0 x1 x2 x3 x4 x5
 go_loopw [6,17] (fun v i wr=>∃ q:Nat,q<=eB/\i=O U q/\Below W.heap.size W wr/\og wr W.heap.size v ((ws.take q).filter (keepW (c,d)))) (fun _ i _=>eB-(intOf i).toNat)
 case atStart=>exact⟨0,bS _,rfl,aA _ _,gB _ _⟩
 case round =>
  obtain⟨q,hq,rfl,hbe,hown⟩:=hrel;have BE:=L hbe;have OE:=L hown;clear hbe hown;have l9:eB<=900:=by rw [N5.out]; exact WL.out
  by_cases hlt:q<eB
  ·have hlt':(q:Int)<(eB:Int):=by omega
   have hw:IntKind.i64.wrap ((q:Int)+1)=(q:Int)+1:=bI _ (by omega);obtain⟨z,hz⟩:∃ z,ws[q]?=X z:=⟨_,au (by rw [<- N5.out]; exact hlt)⟩;obtain⟨p,ix,px⟩:=elW Lh.out rfl N5.out.symm hz;obtain⟨p0,p1,p2⟩:=px wr BE.out;have FS:=L (zU ws q z (keepW (c,d)) hz);obtain⟨y1,y2,⟨yo,yn,yc⟩⟩:=z;simp only at p0 p1 p2;clear px hz;go_upto_region 5 with fail;clear p0 p1 p2 ix;have NN:=fI wr (Z #[O U y1,O U y2,J yo yn yc] 61);have XE:=L (dO wr #[O U y1,O U y2,J yo yn yc] 61);have UD:=L (BE.out.trans (NN.mono BE.out.size));have PG:=L (dG OE.out NN);clear BE OE NN;generalize wr.alloc (Z #[O U y1,O U y2,J yo yn yc] 61)=wa at *;obtain⟨e0_,e1_,e2_⟩:=XE.out.cs3;have y0:=(YW.out.on UD.out).cell 0;have y1_:=(YW.out.on UD.out).cell 1;simp only [aD,aI,aJ] at y0 y1_;obtain⟨r,hr⟩:∃ r,(!(y1 == c && y2 == d))=r:=⟨_,rfl⟩;have he:=Yv y1 y2 c d r hr;have KW:=L (show keepW (c,d) (y1,y2,(yo,yn,yc))=r by
    rw [<- hr];unfold keepW;by_cases h1:y1=c <;> by_cases h2:y2=d <;> simp [h1,h2])
   clear hr;cases r
   ·go_wp2_with fail
    go_roundw
    case rel=>exact⟨q+1,hlt,by go_num,UD.out,by rw [FS.out,KW.out]; simpa using PG.out⟩
    case measure=>simp [intOf]; omega
   ·have hl:=iD okW wa [((y1,y2,(yo,yn,yc)):pK)] 1 rfl (by simp) #[O U y1,O U y2,J yo yn yc] (by rfl);have NB:=fI wa (Z #[O U y1,O U y2,J yo yn yc] 61);obtain⟨v',x5,q2,o2,g2⟩:=gG okW W.heap.size (dG PG.out NB) (aM hl) (by have h1:=List.length_filter_le (keepW (c,d)) (ws.take q); rw [aZ] at h1; omega) (by simp) (aB UD.out.size NB.size) 31;have q2:(aX #[31,31] 31 #[u6,J (X ⟨wa.heap.size,0,V⟩) 1 1]).run aH (wa.alloc (Z #[O U y1,O U y2,J yo yn yc] 61))=.ok v' x5:=q2;have BX:=L ((UD.out.trans (NB.mono UD.out.size)).grown g2 (aB UD.out.size NB.size) (fun j hj=>((dG PG.out NB).lt j hj).1));have O2:=L o2;clear hl NB o2 g2;go_wp2_with (first | (at_builtin; refine wpList_append_run rfl _ _ 31 rfl rfl rfl q2 ?_) | fail)
    go_roundw
    case rel=>exact⟨q+1,hlt,by go_num,BX.out,by rw [FS.out,KW.out]; simpa using O2.out⟩
    case measure=>simp [intOf]; omega
  ·obtain rfl:eB=q:=by omega
   have et:ws.take eB=ws:=bN (by have:=N5.out; omega);rw [et] at OE;clear et;have FI:=L (show eH (Cx w) (ws.filter (keepW (c,d))) (vS b (c,d)) from HW2.out.fil _ _ fun a b h=>by unfold keepW; rw [h.1]);generalize ws.filter (keepW (c,d))=ls at *;obtain⟨la,lc,hlv⟩:=(aM OE.out).len;obtain⟨ln,hln⟩:∃ n,n=ls.length:=⟨_,rfl⟩;rw [<- hln] at hlv;subst hlv;have LN:=L hln;clear hln;have LE:=L (show (vS b (c,d)).length=ln from by rw [LN.out,FI.out.len]);have LO:=L (show b.own.length=eB from by rw [<- HW2.out.len,N5.out]);have jD:=L (gU.out.trans (BE.out.mono gU.out.size));have UH:=L (adw.out.on BE.out);have tL:=L (YW.out.on BE.out);have oN:=L (adx.out.on BE.out);have Gf:=L (Lh.out.on BE.out);clear gU adw YW adx Lh;obtain⟨x0,x1,x2,x3,x4,x5⟩:=UH.out.fB;by_cases hll:ln=eB
   ·have hq1:((ln:Int) == (eB:Int))=aQ:=by simp [hll]
    have HI:=L (HH.out.on jD.out);obtain⟨r0,r1,r2,r3,r4,r5⟩:=oN.out.fB;obtain⟨DI,DJ,DK,DL,DN,DT⟩:=oN.out.kJ;have zz:=oN.out.lt;have GG:=L (dM oN.out (O U me) (J no nn nc) (J ao an ac) (J so sn sc) (J eo en ec) (J oo eB oc));have BL:=L (dI (b:=w.heap.size+1+1) jD.out (by omega) (O U me) (J no nn nc) (J ao an ac) (J so sn sc) (J eo en ec) (J oo eB oc));have HK:=L (fun j (_:j<wr.heap.size) (hj:j≠w.heap.size+1+1)=>dL wr (w.heap.size+1+1) (O U me) (J no nn nc) (J ao an ac) (J so sn sc) (J eo en ec) (J oo eB oc) j hj);have HC:=L (fD (s1:=(V,0,0)) (s2:=(V,0,0)) (s3:=(V,0,0)) (s4:=(V,0,0)) (s5:=(V,0,0)) HI.out oN.out HK.out (HH.out.near.on BL.out));go_wp2_with fail;obtain⟨v0,v1,v2,v3,v4,v5⟩:=GG.out.fB;refine aC (v:=.tuple #[aT #[O U me,J no nn nc,J ao an ac,J so sn sc,J eo en ec,J oo eB oc],J V 0 0]) (by simp [results,dx,go_sem,v0,v1,v2,v3,v4,v5]) rfl ?_;have hd:iZ b (c,d)=(b,[]):=by unfold iZ; rw [if_pos (by rw [LE.out,LO.out]; exact hll)]
    rw [hd];exact⟨⟨(eo,en,ec),(oo,eB,oc),(V,0,0),rfl,HC.out,ru _⟩,BL.out⟩
   ·have hq1:((ln:Int) == (eB:Int))=ay:=by simp; omega
    have DB:=L (show iZ b (c,d)=jT b (c,d) b.dQ.length from by unfold iZ; rw [if_neg (by rw [LE.out,LO.out]; exact hll)]);have f5:=UH.out.fr 5;have zz:=UH.out.lt;go_upto_region 11 with fail;clear x0 x1 x2 x3 x4 x5;have B2:=L (jD.out.setCell (p:=⟨w.heap.size,5,V⟩) (aF _) (J la ln lc));have X2b:=dR (k:=5) UH.out (J la ln lc);simp only [bJ,bZ,bF] at X2b;have X3b:dN _ _ _ _:=(Y wr ⟨w.heap.size,5,V⟩ (J la ln lc) _ (show w.heap.size+1≠w.heap.size by omega)).trans tL.out;have X4b:dN _ _ _ _:=(Y wr ⟨w.heap.size,5,V⟩ (J la ln lc) _ (show w.heap.size+1+1≠w.heap.size by omega)).trans oN.out;have OL:=L (dP OE.out w.heap.size 5 (J la ln lc) (by have:=W4.out; omega));have BS:=L (show iI _ { b with own:=vS b (c,d) } (no,nn,nc) (ao,an,ac) (so,sn,sc) (eo,en,ec) (la,ln,lc) from ⟨HH.out.near.on B2.out,(HH.out.on B2.out).dQ,(HH.out.on B2.out).seen,(HH.out.on B2.out).ent,⟨ls,aM OL.out,FI.out.mono fun _ _ h=>h.on B2.out⟩⟩);clear zz f5 OL OE BE jD UH tL oN Gf;generalize wr.setCell ⟨w.heap.size,5,V⟩ (J la ln lc)=w2 at *;have kZ:=L (B2.out);have ady:=L (X2b);have ql:=L (X3b);have qA:=L (X4b);clear B2 X2b X3b X4b;obtain⟨ad0,ha1,ha2⟩:=BS.out.dQ;obtain⟨q1,q2,hqv⟩:=ha1.len;obtain rfl:an=b.dQ.length:=by have h1:(J ao an ac)=J q1 ad0.length q2:=hqv; have h2:an=ad0.length:=(by simpa using congrArg (fun v=>match v with|Value.slice _ n _=>n|_=>0) h1); rw [h2,ha2.len]
    clear hqv ha1 ha2;obtain⟨an,han⟩:∃ n,n=b.dQ.length:=⟨_,rfl⟩;have AN:=L (show b.dQ.length<=900 from L2.out);obtain⟨x0,x1,x2,x3,x4,x5⟩:=ady.out.fB;go_wp2_with fail;clear x0 x1 x2 x3 x4 x5
    go_loopw [9,42] (fun v i wr=>∃ (k:Nat) (ea:Option bW) (iL iM:Nat) (ta:Option bW) (tn tc:Nat),k<=b.dQ.length/\i=O U k/\v=J ta tn tc/\Below w.heap.size w wr/\dN wr w.heap.size #[O U me,J no nn nc,J ao b.dQ.length ac,J so sn sc,J ea iL iM,J la ln lc] 33/\dN wr (w.heap.size+1) #[O U c,O U d] 38/\dN wr (w.heap.size+1+1) #[O U 0,J V 0 0,J V 0 0,J V 0 0,J V 0 0,J V 0 0] 33/\iI wr (jT b (c,d) k).1 (no,nn,nc) (ao,b.dQ.length,ac) (so,sn,sc) (ea,iL,iM) (la,ln,lc)/\lW wr (ta,tn,tc) (jT b (c,d) k).2) (fun _ i _=>b.dQ.length-(intOf i).toNat)
    case atStart=>exact⟨0,eo,en,ec,V,0,0,bS _,rfl,rfl,kZ.out,ady.out,ql.out,qA.out,BS.out,ru _⟩
    case round =>
     clear BS kZ ady ql qA;obtain⟨k,ea,iL,iM,ta,tn,tc,hk,rfl,rfl,hgb,hx2,hx3,hx4,hbr,hou⟩:=hrel;have Nv:=L (hgb);have UJ:=L (hx2);have aaA:=L (hx3);have y8:=L (hx4);have Nw:=L (hbr);have UL:=L (hou);clear hgb hx2 hx3 hx4 hbr hou;have UK:=L (rJ b (c,d) k hk);have l9:=AN.out;by_cases hlt:k<b.dQ.length
     ·have hlt':(k:Int)<(b.dQ.length:Int):=by omega
      have hw:IntKind.i64.wrap ((k:Int)+1)=(k:Int)+1:=bI _ (by omega);obtain⟨a,hak⟩:∃ a,b.dQ[k]?=X a:=⟨_,au hlt⟩;have US:=L (lZ b (c,d) hak);have PK:=L (sN b (c,d) (fun e=>dW e.p) (fun _ h=>h) OK.out k hk);have TKN:=L (sN b (c,d) (fun e=>e.tree∈b.dQ.map Ad.id) (fun _ h=>h) KN.out k hk);obtain⟨ad,zq,wS⟩:=Nw.out.dQ;rw [UK.out.1.dQ] at wS;obtain⟨z,hz1,hz2⟩:=wS.at k a hak;obtain⟨p,ix,px⟩:=Yh zq rfl (by rw [wS.len]) hz1;obtain⟨p0,p1,p2,p3⟩:=px wr (aA _ _);obtain⟨z1,z2,⟨z3,z4,z5⟩,z6⟩:=z;simp only at p0 p1 p2 p3;have ZI:=L (show a.id=(z1,z2) from hz2.1.symm);clear px hz1 hz2 zq wS hak;go_upto_region 15 with fail;clear p0 p1 p2 p3 ix;have NN:=fI wr (Z #[O U z1,O U z2,J z3 z4 z5,O U z6] 53);have Aw:=L (Nv.out.trans (NN.mono Nv.out.size));have UM:=L (UJ.out.on NN);have UN:=L (aaA.out.on NN);have aaB:=L (y8.out.on NN);have UQ:=L (Nw.out.on NN);have aaC:=L (UL.out.on NN);clear Nv UJ aaA y8 Nw UL;clear NN;have Li:=L (dO wr #[O U z1,O U z2,J z3 z4 z5,O U z6] 53);generalize wr.alloc (Z #[O U z1,O U z2,J z3 z4 z5,O U z6] 53)=wa at *;have DP:=L (DX (jT b (c,d) k).1 (no,nn,nc) (ao,b.dQ.length,ac) (so,sn,sc) (ea,iL,iM) (la,ln,lc) (z1,z2) (c,d) (-1) wa UQ.out (by rw [UK.out.1.dQ]; exact AN.out) (aB UK.out.1.len L3.out) PK.out (by rw [UK.out.1.dQ]; exact TKN.out));rw [UK.out.1.me,<- ME.out] at DP;obtain⟨x0,x1,x2,x3,x4,x5⟩:=UM.out.fB;obtain⟨y0,y1⟩:=UN.out.cs2;obtain⟨zc0,zc1,zc2,zc3⟩:=Li.out.Ke;rw [ZI.out] at US;have UK2:=L (rJ b (c,d) (k+1) hlt);rw [US.out] at UK2;go_wp2_with fail;refine DP.out.mono ?_;rintro e1 w1 ⟨⟨⟨oh,sw,sD⟩,⟨ta2,tn2,tc2⟩,rfl,hbr,hou⟩,hb⟩;clear DP;clear x0 x1 x2 x3 x4 x5 y0 y1 zc0 zc1 zc2 zc3;have UR:=L (Aw.out.trans (hb.mono Aw.out.size));have aaD:=L (UM.out.on hb);have aaE:=L (UN.out.on hb);have aaF:=L (aaB.out.on hb);have afr:=L (UQ.out.on hb);have aaG:=L (aaC.out.on hb);have adz:=L (Li.out.on hb);clear Aw UM UN aaB UQ aaC Li;have BR2:=L hbr;have OU2:=L hou;clear hb hbr hou afr adz;go_upto_region 16 with fail;have BR3:=L (BR2.out.on (fI w1 (Z #[O U me,J no nn nc,J ao b.dQ.length ac,J so sn sc,J oh sw sD,J la ln lc] 33)));have OU3:=L (OU2.out.on (fI w1 (Z #[O U me,J no nn nc,J ao b.dQ.length ac,J so sn sc,J oh sw sD,J la ln lc] 33)));clear BR2 OU2;have NN:=fI w1 (Z #[O U me,J no nn nc,J ao b.dQ.length ac,J so sn sc,J oh sw sD,J la ln lc] 33);have Ay:=L (UR.out.trans (NN.mono UR.out.size));have Ny:=L (aaD.out.on NN);have aaH:=L (aaE.out.on NN);have aaI:=L (aaF.out.on NN);have afs:=L (aaG.out.on NN);clear UR aaD aaE aaF aaG;clear NN;have adA:=L (dO w1 #[O U me,J no nn nc,J ao b.dQ.length ac,J so sn sc,J oh sw sD,J la ln lc] 33);generalize w1.alloc (Z #[O U me,J no nn nc,J ao b.dQ.length ac,J so sn sc,J oh sw sD,J la ln lc] 33)=wb at *;obtain⟨lo,hlo1,hlo2⟩:=afs.out;obtain⟨ls2,aft,adB⟩:=OU3.out;have LL:=UK.out.2;have LD:=DY (jT b (c,d) k).1 (z1,z2) (c,d) (-1);have LU:=UK.out.1.len;have l3:=L3.out;have LM:k * (b.ent.length+1)<=900 * 901:=dn (by omega) (by omega);refine afo _ wb w.heap.size w1.heap.size me no ao so oh la nn nc b.dQ.length ac sn sc sw sD ln lc ta ta2 tn tc tn2 tc2 lo ls2 _ _ _ _ _ _ _ _ _ _ _ _ _ _ _ _ _ _ _ _ _ _ _ _ _ _ _ _ _ _ _ _ _ _ _ _ _ _ _ _ _ _ _ _ _ _ _ _ _ _ _ _ _ _ _ _ _ _ _ _ _ _ _ _ _ Ny.out adA.out hlo1 aft (by rw [hlo2.len]; omega) (by rw [adB.len]; omega) ?_;intro x w9 v54 v55 v56 v57 v58 v59 hbx hown hblk hbl;have GX:=L (Ay.out.trans (hbl _ (aF _)));have Y2:=L hbx;have Y3:=L (show dN _ _ _ _ from (hblk _ aaH.out.lt (by omega)).trans aaH.out);have Y4:=L (show dN _ _ _ _ from (hblk _ aaI.out.lt (by omega)).trans aaI.out);have BRX:=L (fD (s1:=(no,nn,nc)) (s2:=(ao,b.dQ.length,ac)) (s3:=(so,sn,sc)) (s4:=(ea,iL,iM)) (s5:=(la,ln,lc)) BR3.out Ny.out hblk (by rw [show (kE (jT b (c,d) k).1 (z1,z2) (c,d) (-1)).1.near=b.near from UK2.out.1.near]; exact HH.out.near.on GX.out));have OA:=L ((Au (s1:=(no,nn,nc)) (s2:=(ao,b.dQ.length,ac)) (s3:=(so,sn,sc)) (s4:=(ea,iL,iM)) (s5:=(la,ln,lc)) hlo2 Ny.out hblk).append (Au (s1:=(no,nn,nc)) (s2:=(ao,b.dQ.length,ac)) (s3:=(so,sn,sc)) (s4:=(ea,iL,iM)) (s5:=(la,ln,lc)) adB Ny.out hblk));obtain⟨ra,rc,hrv⟩:=(aM hown).len;have RR:=L (aM hown);rw [hrv] at RR;rw [hrv];clear hbx hown hblk hbl hlo1 hlo2 aft adB hrv BR3 OU3;go_wp2_with fail
      go_roundw
      case rel=>exact⟨k+1,oh,sw,sD,ra,_,rc,hlt,by go_num,rfl,GX.out,Y2.out,Y3.out,Y4.out,by rw [US.out]; exact BRX.out,by rw [US.out]; exact⟨_,RR.out,OA.out⟩⟩
      case measure=>simp [intOf]; omega
     ·obtain rfl:k=b.dQ.length:=by omega
      obtain⟨x0,x1,x2,x3,x4,x5⟩:=UJ.out.fB;obtain⟨r0,r1,r2,r3,r4,r5⟩:=y8.out.fB;obtain⟨DI,DJ,DK,DL,DN,DT⟩:=y8.out.kJ;have zz:=y8.out.lt;have GG:=L (dM y8.out (O U me) (J no nn nc) (J ao b.dQ.length ac) (J so sn sc) (J ea iL iM) (J la ln lc));have BL:=L (dI (b:=w.heap.size+1+1) Nv.out (by omega) (O U me) (J no nn nc) (J ao b.dQ.length ac) (J so sn sc) (J ea iL iM) (J la ln lc));have HK:=L (fun j (_:j<wr.heap.size) (hj:j≠w.heap.size+1+1)=>dL wr (w.heap.size+1+1) (O U me) (J no nn nc) (J ao b.dQ.length ac) (J so sn sc) (J ea iL iM) (J la ln lc) j hj);have HC:=L (fD (s1:=(V,0,0)) (s2:=(V,0,0)) (s3:=(V,0,0)) (s4:=(V,0,0)) (s5:=(V,0,0)) Nw.out y8.out HK.out (by rw [UK.out.1.near]; exact HH.out.near.on BL.out));have HO:=L (jk (s1:=(V,0,0)) (s2:=(V,0,0)) (s3:=(V,0,0)) (s4:=(V,0,0)) (s5:=(V,0,0)) UL.out y8.out HK.out);go_wp2_with fail;obtain⟨v0,v1,v2,v3,v4,v5⟩:=GG.out.fB;refine aC (v:=.tuple #[aT #[O U me,J no nn nc,J ao b.dQ.length ac,J so sn sc,J ea iL iM,J la ln lc],J ta tn tc]) (by simp [results,dx,go_sem,v0,v1,v2,v3,v4,v5]) rfl ?_;rw [DB.out];exact⟨⟨(ea,iL,iM),(la,ln,lc),(ta,tn,tc),rfl,HC.out,HO.out⟩,BL.out⟩
def zF (B:Nat) (b11 _ _:Nat) (_ _ iA c d c2 d2 fr:Int) (up:Bool) (_ po:Option bW) (_ _ pn pc:Nat) (rv:aP) (_:List qd) (i:Nat) (v:aP) (x:aK):Prop :=
 match i with
 | 0=>v=rv
 | 1=>v=ak (X ⟨b11,3,V⟩)
 | 2=>v=O U iA
 | 3=>v=aT #[O U c,O U d,O U c2,O U d2,J po pn pc,O U fr,ah up]
 | 4=>v=aT #[O U 3,O U c,O U d,O U c2,O U d2,J po pn pc,J V 0 0]
 | 5=>v=Ag (iA,3,c,d,c2,d2,(po,pn,pc),(V,0,0))
 | 6=>jB x B v [(iA,3,c,d,c2,d2,(po,pn,pc),(V,0,0))]
 | _=>True
noncomputable def Nz:Code:=((Tryz.f27.body.bind (eP 16)).getD .skip)
theorem Lj (B:Nat) (b11 b12 F0:Nat) (z1 z2 iA c d c2 d2 fr:Int) (up:Bool) (z3 po:Option bW) (z4 z5 pn pc:Nat) (rv:aP) (lo:List qd) (i:Nat) (v:aP) (x x':aK) (h:zF B b11 b12 F0 z1 z2 iA c d c2 d2 fr up z3 po z4 z5 pn pc rv lo i v x) (hb:Below x.heap.size x x'):zF B b11 b12 F0 z1 z2 iA c d c2 d2 fr up z3 po z4 z5 pn pc rv lo i v x':=by
 by_cases hi:i<7
 ·rcases (by omega:i=0\/i=1\/i=2\/i=3\/i=4\/i=5\/i=6) with rfl|rfl|rfl|rfl|rfl|rfl|rfl
  ·exact h
  ·exact h
  ·exact h
  ·exact h
  ·exact h
  ·exact h
  ·exact dG h hb
 ·unfold zF
  split <;> first | omega | trivial
theorem UU (Q:Exit->Act->aK->Prop) (W:aK) (b11 b12 F0:Nat) (z1 z2 iA c d c2 d2 fr:Int) (up:Bool) (z3 po:Option bW) (z4 z5 pn pc:Nat) (rv:aP) (lo:List qd) (u0 u1 u2 u3 u4 u5 u6 u7 u8 u10 u13 u14 u15 u16 u17 u18 u19 u20 u21 u22 u23 u24 u25 u26 u27 u28 u29 u30 u31 u32 u33 u34 u35 u36 u37 u38 u39 u40 u41 u42 u43 u44 u45 u46 u47 u48 u49 u50 u51 u52 u53 u54 u55 u56 u57 u58 u59 u60 u61 u62 u63 u64 u65 u66 u67 u68 u69 u70 u71 u72 u73 u74 u75 u76 u77 u78 u79 u80 u81 u82 u83 u84 u85 u86 u87 u88 u89 u90 u91 u92 u93 u94 u95 u96 u97 u98:aP)
  (h11:dN W b11 #[O U z1,O U z2,J z3 z4 z5,O U iA] 53) (h12:dN W b12 #[O U c,O U d,O U c2,O U d2,J po pn pc,O U fr,ah up] 68) (fw:F0<=W.heap.size) (ho:jB W F0 rv lo) (hl:lo.length<=1000000)
  (hQ:∀ (x0 x:aK) (w9:aP) (v88 v89 v90 v91 v92 v93 v94 v95:aP),Below W.heap.size W x0->x0.grownBy x rv.ownBlock->jB x F0 w9 (lo++[(iA,3,c,d,c2,d2,(po,pn,pc),(V,0,0))])->Q .normal ⟨(u0::u1::u2::u3::u4::u5::u6::u7::u8::w9::u10::ak (X ⟨b11,0,V⟩)::ak (X ⟨b12,0,V⟩)::u13::u14::u15::u16::u17::u18::u19::u20::u21::u22::u23::u24::u25::u26::u27::u28::u29::u30::u31::u32::u33::u34::u35::u36::u37::u38::u39::u40::u41::u42::u43::u44::u45::u46::u47::u48::u49::u50::u51::u52::u53::u54::u55::u56::u57::u58::u59::u60::u61::u62::u63::u64::u65::u66::u67::u68::u69::u70::u71::u72::u73::u74::u75::u76::u77::u78::u79::u80::u81::u82::u83::u84::u85::u86::u87::v88::v89::v90::v91::v92::v93::v94::v95::u96::u97::u98::[]).toArray,[]⟩ x) :
  Code.wp aH Nz Q ⟨(u0::u1::u2::u3::u4::u5::u6::u7::u8::rv::u10::ak (X ⟨b11,0,V⟩)::ak (X ⟨b12,0,V⟩)::u13::u14::u15::u16::u17::u18::u19::u20::u21::u22::u23::u24::u25::u26::u27::u28::u29::u30::u31::u32::u33::u34::u35::u36::u37::u38::u39::u40::u41::u42::u43::u44::u45::u46::u47::u48::u49::u50::u51::u52::u53::u54::u55::u56::u57::u58::u59::u60::u61::u62::u63::u64::u65::u66::u67::u68::u69::u70::u71::u72::u73::u74::u75::u76::u77::u78::u79::u80::u81::u82::u83::u84::u85::u86::u87::u88::u89::u90::u91::u92::u93::u94::u95::u96::u97::u98::[]).toArray,[]⟩ W:=by
 have HQ:=L hQ;have H11:=L h11;have H12:=L h12;have FW:=L fw;have HO:=L ho;have HL:=L hl;clear hQ h11 h12 fw ho hl;have iN:=Lj W.heap.size b11 b12 F0 z1 z2 iA c d c2 d2 fr up z3 po z4 z5 pn pc rv lo;unfold Nz
 conv=>arg 2; whnf
 have nd:∀ j,(∀ i,i<7->[88,89,90,91,92,93,94].getD i 0≠j)->∀ i,i<7->(fun i=>[88,89,90,91,92,93,94].getD i 0) i≠j:=fun j h=>h;refine Rg.fM 9 7 (fun i=>[88,89,90,91,92,93,94].getD i 0) (fun _=>7) (zF W.heap.size b11 b12 F0 z1 z2 iA c d c2 d2 fr up z3 po z4 z5 pn pc rv lo) (by kernel_rfl) (by kernel_rfl) rfl (by decide) (fun i j hi hj h=>(by decide:∀ i,i<7->∀ j,j<7->[88,89,90,91,92,93,94].getD i 0=[88,89,90,91,92,93,94].getD j 0->i=j) i hi j hj h) (fun i hi=>(by decide:∀ i,i<7->[88,89,90,91,92,93,94].getD i 0<99) i hi) ?_ (fun _=>Rg.jq 14 (by kernel_rfl)) ?_ ?_
 ·intro i o hi ho a x D hnd hc hD hb seen K hK;clear HQ;rcases (by omega:i=0\/i=1\/i=2\/i=3\/i=4\/i=5\/i=6) with rfl|rfl|rfl|rfl|rfl|rfl|rfl
  ·cases ho;have e9:a.eval (aG 9)=rv:=seen.kp 9 _ (nd 9 (by decide)) rfl;exact aV rfl rfl (Rg.fQ a.eval _ (aG 9) rfl x) (hK _ _ e9 (aA _ _) fun _ _ _ _ _ _ _ h=>h)
  ·cases ho;have e11:a.eval (aG 11)=ak (X ⟨b11,0,V⟩):=seen.kp 11 _ (nd 11 (by decide)) rfl;exact aV rfl rfl (Rg.dX a.eval _ 53 (aG 11) 2 rfl (by rw [e11]; simp [go_sem])) (hK _ _ rfl (aA _ _) fun _ _ _ _ _ _ _ h=>h)
  ·cases ho;have e89:a.eval (aG 89)=ak (X ⟨b11,3,V⟩):=seen.at_ ⟨1,.data⟩ (by simp) rfl (aN (by decide));have y3:=(H11.out.on hb).cell 3;simp only [aD,aI,aJ] at y3;exact aV rfl rfl (Rg.dZ a.eval _ 3 (aG 89) rfl (by rw [e89]; simp [go_sem,y3])) (hK _ _ rfl (aA _ _) fun _ _ _ _ _ _ _ h=>h)
  ·cases ho;have e12:a.eval (aG 12)=ak (X ⟨b12,0,V⟩):=seen.kp 12 _ (nd 12 (by decide)) rfl;obtain⟨y0,y1,y2,y3,y4,y5,y6⟩:=(H12.out.on hb).oI;exact aV rfl rfl (Rg.dZ a.eval _ 68 (aG 12) rfl (by rw [e12]; simp [go_sem,y0,y1,y2,y3,y4,y5,y6])) (hK _ _ rfl (aA _ _) fun _ _ _ _ _ _ _ h=>h)
  ·cases ho;have e91:a.eval (aG 91)=aT #[O U c,O U d,O U c2,O U d2,J po pn pc,O U fr,ah up]:=seen.at_ ⟨3,.data⟩ (by simp) rfl (aN (by decide));exact Rg.gH rfl rfl (iG a.eval _ (aG 91) 68 58 rfl e91 rfl _ (fT Tryz.func58 rfl rfl _ _)) (zD (c,d,c2,d2,(po,pn,pc),fr,up) x) fun e w1 h=>by
    obtain⟨rfl,h3⟩:=h;exact⟨_,rfl,hK _ _ rfl (h3.mono hb.size) fun j u _ _ _ _ _ h=>iN j u _ _ h h3⟩
  ·cases ho;have e90:a.eval (aG 90)=O U iA:=seen.at_ ⟨2,.data⟩ (by simp) rfl (aN (by decide));have e92:a.eval (aG 92)=aT #[O U 3,O U c,O U d,O U c2,O U d2,J po pn pc,J V 0 0]:=seen.at_ ⟨4,.data⟩ (by simp) rfl (aN (by decide));exact aV rfl rfl (Rg.iW a.eval _ 58 #[(0,aG 90),(1,aG 92)] rfl (ps:=#[(0,O U iA),(1,aT #[O U 3,O U c,O U d,O U c2,O U d2,J po pn pc,J V 0 0])]) (by simp only [bM,bf,cK,e90,e92]) (by simp [go_sem])) (hK _ _ rfl (aA _ _) fun _ _ _ _ _ _ _ h=>h)
  ·cases ho;have e93:a.eval (aG 93)=Ag (iA,3,c,d,c2,d2,(po,pn,pc),(V,0,0)):=seen.at_ ⟨5,.data⟩ (by simp) rfl (aN (by decide));have hl:=iD Il x [((iA,3,c,d,c2,d2,(po,pn,pc),(V,0,0)):qd)] 1 rfl (by simp) (kG (iA,3,c,d,c2,d2,(po,pn,pc),(V,0,0))).toArray (by simp [flat,EU]);have nb:=fI x (Z (kG (iA,3,c,d,c2,d2,(po,pn,pc),(V,0,0))).toArray 58);exact aV rfl rfl (Rg.iQ a.eval _ 44 1 #[(0,aG 93)] rfl (ps:=#[(0,Ag (iA,3,c,d,c2,d2,(po,pn,pc),(V,0,0)))]) (by simp [e93]) (by simp [go_sem])) (hK (J (X ⟨x.heap.size,0,V⟩) 1 1) (x.alloc (Z (kG (iA,3,c,d,c2,d2,(po,pn,pc),(V,0,0))).toArray 58)) (dJ hl hb.size) (nb.mono hb.size) fun j u _ _ _ _ _ h=>iN j u _ _ h nb)
 ·intro kk o h1 h2 ho;rcases (by omega:kk=8) with rfl
  ·cases ho;exact⟨⟨7,.data⟩,by simp,rfl,rfl⟩
 ·intro a w' df sz kp ⟨vs,hv⟩ hb;have sz':a.tmps.size=99:=sz;have g88:a.tmps[88]?=X (rv):=by
   have h:vs 0=rv:=(hv 0 (by omega)).2 (by decide);rw [<- h];exact (hv 0 (by omega)).1
  have g94:a.tmps[94]?=X (vs 6):=(hv 6 (by omega)).1;have G94:=(hv 6 (by omega)).2 (by decide);have o94:jB w' W.heap.size (vs 6) [(iA,3,c,d,c2,d2,(po,pn,pc),(V,0,0))]:=G94;generalize vs 6=v6 at *;obtain⟨v',x',r,o',gr⟩:=wT Il F0 (dG HO.out hb) (aM o94) HL.out (by simp) (aB FW.out hb.size) 44;show Rg.fF _ _ _ 2 7 a w';simp only [Rg.fF];refine aV rfl rfl (Rg.gq a.eval _ (aG 88) (aG 94) 44 rfl (Rg.dK g88) (Rg.dK g94) r) ?_;have e95:(a.put (X 95) v').eval (aG 95)=v':=Rg.dK (by simp [bV,sz']);refine aV rfl rfl (Rg.jM _ _ (aG 95) rfl x') ?_;show Q .normal ((a.put (X 95) v').put (X 9) ((a.put (X 95) v').eval (aG 95))) x';rw [e95];show Q .normal ((a.put (X 95) v').put (X 9) v') x';have ka:∀ j,j≠95->j≠9->((a.put (X 95) v').put (X 9) v').tmps[j]?=a.tmps[j]?:=fun j h1 h2=>by rw [dw _ _ _ _ (by omega),dw _ _ _ _ (by omega)]
  have kt:((a.put (X 95) v').put (X 9) v').tmps[9]?=X (v'):=by simp [bV,sz']
  have sI:∀ j,(j<88\/96<=j)->((a.put (X 95) v').put (X 9) v').tmps[j]?=(u0::u1::u2::u3::u4::u5::u6::u7::u8::v'::u10::ak (X ⟨b11,0,V⟩)::ak (X ⟨b12,0,V⟩)::u13::u14::u15::u16::u17::u18::u19::u20::u21::u22::u23::u24::u25::u26::u27::u28::u29::u30::u31::u32::u33::u34::u35::u36::u37::u38::u39::u40::u41::u42::u43::u44::u45::u46::u47::u48::u49::u50::u51::u52::u53::u54::u55::u56::u57::u58::u59::u60::u61::u62::u63::u64::u65::u66::u67::u68::u69::u70::u71::u72::u73::u74::u75::u76::u77::u78::u79::u80::u81::u82::u83::u84::u85::u86::u87::u88::u89::u90::u91::u92::u93::u94::u95::u96::u97::u98::[])[j]?:=fun j hj=>by
   by_cases hj2:j=9
   ·subst hj2;exact kt
   ·have hs:(u0::u1::u2::u3::u4::u5::u6::u7::u8::v'::u10::ak (X ⟨b11,0,V⟩)::ak (X ⟨b12,0,V⟩)::u13::u14::u15::u16::u17::u18::u19::u20::u21::u22::u23::u24::u25::u26::u27::u28::u29::u30::u31::u32::u33::u34::u35::u36::u37::u38::u39::u40::u41::u42::u43::u44::u45::u46::u47::u48::u49::u50::u51::u52::u53::u54::u55::u56::u57::u58::u59::u60::u61::u62::u63::u64::u65::u66::u67::u68::u69::u70::u71::u72::u73::u74::u75::u76::u77::u78::u79::u80::u81::u82::u83::u84::u85::u86::u87::u88::u89::u90::u91::u92::u93::u94::u95::u96::u97::u98::[]:List aP)=(u0::u1::u2::u3::u4::u5::u6::u7::u8::rv::u10::ak (X ⟨b11,0,V⟩)::ak (X ⟨b12,0,V⟩)::u13::u14::u15::u16::u17::u18::u19::u20::u21::u22::u23::u24::u25::u26::u27::u28::u29::u30::u31::u32::u33::u34::u35::u36::u37::u38::u39::u40::u41::u42::u43::u44::u45::u46::u47::u48::u49::u50::u51::u52::u53::u54::u55::u56::u57::u58::u59::u60::u61::u62::u63::u64::u65::u66::u67::u68::u69::u70::u71::u72::u73::u74::u75::u76::u77::u78::u79::u80::u81::u82::u83::u84::u85::u86::u87::u88::u89::u90::u91::u92::u93::u94::u95::u96::u97::u98::[]).set 9 (v'):=rfl;rw [hs,bU (Ne.symm hj2)];exact (ka j (by omega) hj2).trans ((kp j (nd j fun i hi h=>by have:=(by decide:∀ i,i<7->88<=[88,89,90,91,92,93,94].getD i 0/\[88,89,90,91,92,93,94].getD i 0<96) i hi; omega)).trans aD)
  obtain⟨mid,hmid,hfr⟩:=Rg.gF (a:=(a.put (X 95) v').put (X 9) v') 88 8 (by simp [bV,df]) (by simp [bV,sz']) (by simp) sI;rw [hfr]
  match mid,hmid with
  | [v88,v89,v90,v91,v92,v93,v94,v95],_ =>
   exact HQ.out w' x' _ _ _ _ _ _ _ _ _ hb gr o'
end Bk
end Go.Proofs.YtkcfgbddlpomgaaGreat
