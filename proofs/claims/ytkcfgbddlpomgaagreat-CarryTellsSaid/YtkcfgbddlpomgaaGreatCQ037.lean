/-
  New of package adver. Conditions as told.
-/
import Derived.Test.YtkcfgbddlpomgaaGreatCQ035
import Derived.Test.YtkcfgbddlpomgaaGreatCQ021
set_option maxRecDepth 100000
set_option maxHeartbeats 64000000
open _root_.Go renaming World->aC,Value->aG,bodyPost_ret->aH,Addr->bC,Calls->bE
open Go.IntKind renaming i64->V
open Go.Lib renaming hid->L
open Go.Obj renaming cells->aI
open Go.Operand renaming tmp->ak
open Go.Proofs.Tryz renaming prog->aF,results12->aT,results62->bn
open Go.Proofs.YtkcfgbddlpomgaaGreat.Rg renaming cZ->aB,dR->aZ,dD->bf,get_put->bg,fu->bD,fJ->bF,dJ->bH,fM->bI,fH->bJ,iW->bK,iM->bL,iG->bN
open Go.RowKit.Below renaming refl->ah,heap_setCell->aK
open Go.Value renaming slice->J,int->U,pointer->Z,agg->aO
open _root_.List renaming getElem?_toArray->aj,getElem?_cons_zero->au,getElem?_cons_succ->ay,map_cons->aJ,getElem?_eq_getElem->aM,mem_cons->aN,map_toArray->aP,find?_cons_of_neg->aR,mem_cons_of_mem->aS,pairwise_cons->aU,map_nil->aX,length_take->aY,map->bG
open _root_.Nat renaming le_refl->aL,le_of_lt->aQ,lt_of_le_of_lt->aV,le_trans->aW
open _root_.Option renaming none->O,some->aA
open _root_.Or renaming inr->aD,inl->bA
namespace Go.Proofs.YtkcfgbddlpomgaaGreat
namespace Av
open Go.RowKit Rw YtkcfgbddlpomgaaGreat.Nm Pr Bk Go.Sort
abbrev Dh (me:Int) (near:List Int):Br:=⟨me,near,[],[],[],[]⟩
theorem Sv (me:Int) (v:Sl) (l:List Int) (w:aC) (hv:qW w (dK v) l) (hl:l.length<=900) :
  bE aF 41 #[U V me,dK v] w fun e w'=>(∃ (l':List Int) (nv:Sl),e=.returned (nG me nv (O,0,0) (O,0,0) (O,0,0) (O,0,0))/\gZ w' (Dh me l') nv (O,0,0) (O,0,0) (O,0,0) (O,0,0)/\(∃ B,mq w' B (dK nv) l')/\l'.Pairwise (·<·)/\∀ x,x∈l'↔x∈l)/\Below w.heap.size w w':=by
 have n0:=fT w (aI #[U V 0,J O 0 0,J O 0 0,J O 0 0,J O 0 0,J O 0 0] 33);have X:=L (dI w #[U V 0,J O 0 0,J O 0 0,J O 0 0,J O 0 0,J O 0 0] 33);have C:=L (yO v l _ (hv.on n0) hl);have B0:=L n0;have HL:=L hl;obtain⟨vo,vn,vc⟩:=v;clear hv hl n0;go_enter Tryz.func41,Tryz.ntmps41;go_wp2_with fail;generalize w.alloc (aI #[U V 0,J O 0 0,J O 0 0,J O 0 0,J O 0 0,J O 0 0] 33)=W at *;refine C.out.mono ?_;rintro e1 w1 ⟨⟨⟨p1,p2,p3⟩,rfl,ho⟩,hb⟩;have B1:=L (B0.out.trans (hb.mono B0.out.size));have X1:=L (X.out.on hb);have hlt:w.heap.size<W.heap.size:=X.out.lt;have C2:=L (Ci w1 W.heap.size _ l ho HL.out);have OT:=L (fun g hg=>(ho.lt g hg).1);have HW:=L hlt;clear hb ho C X;go_wp2_with fail;refine C2.out.mono ?_;rintro e2 w2 ⟨rfl,l2,ho2,hp2,hs2,hg2⟩;have B2:=L (B1.out.grown hg2 B1.out.size (fun j hj=>aW (aQ HW.out) (OT.out j hj)));have X2:=L (show dG w2 w.heap.size _ _ from (hg2.block _ X1.out.lt (fun e=>by have:=OT.out _ e.symm; have:=HW.out; omega)).trans X1.out);have C3:=L (Gl w2 W.heap.size (p1,p2,p3) l2 ho2 hs2 (by rw [hp2.length_eq]; exact HL.out));have PM:=L hp2;have OT2:=L (fun g hg=>(ho2.lt g hg).1);clear ho2 hp2 hs2 hg2 C2 OT X1;go_wp2_with fail;refine C3.out.mono ?_;rintro e3 w3 ⟨⟨⟨t1,t2,t3⟩,rfl,l3,ho3,hs3,hm3⟩,hg3⟩;have B3:=L (B2.out.grown hg3 B2.out.size (fun j hj=>aW (aQ HW.out) (OT2.out j hj)));have Y:=show dG w3 w.heap.size _ _ from (hg3.block _ X2.out.lt (fun e=>by have:=OT2.out _ e.symm; have:=HW.out; omega)).trans X2.out;obtain⟨y0,y1,y2,y3,y4,y5⟩:=Y.eZ;obtain⟨f0,f1,f2,f3,f4,f5⟩:=Y.kg;have zz:=Y.lt;have FB:=L (dH Y (U V me) (J t1 t2 t3) (J O 0 0) (J O 0 0) (J O 0 0) (J O 0 0));have FL:=L (dw (b:=w.heap.size) B3.out (aL _) (U V me) (J t1 t2 t3) (J O 0 0) (J O 0 0) (J O 0 0) (J O 0 0));have FO:=L (fC ho3 w.heap.size HW.out (U V me) (J t1 t2 t3) (J O 0 0) (J O 0 0) (J O 0 0) (J O 0 0));have Q:=L (show l3.Pairwise (·<·)/\∀ x,x∈l3↔x∈l from ⟨hs3,fun x=>(hm3 x).trans PM.out.mem_iff⟩);clear ho3 hs3 hm3 hg3 Y X2 C3 B2 B1 B0;go_wp2_with fail;obtain⟨v0,v1,v2,v3,v4,v5⟩:=FB.out.eZ;refine aH (v:=aO #[U V me,J t1 t2 t3,J O 0 0,J O 0 0,J O 0 0,J O 0 0]) (by simp [results,Tryz.results41,go_sem,v0,v1,v2,v3,v4,v5]) rfl ?_;exact⟨⟨l3,(t1,t2,t3),rfl,⟨Row.dn FO.out,⟨[],jf _,.nil⟩,jf _,⟨[],jf _,.nil⟩,⟨[],jf _,.nil⟩⟩,⟨_,FO.out⟩,Q.out.1,Q.out.2⟩,FL.out⟩
end Av
namespace Av
open Go.RowKit Rw YtkcfgbddlpomgaaGreat.Nm Pr Wr
theorem aaA (c:Cn) (h:Bd c=true):Nt (r5 c)=true:=by
 obtain⟨n,k⟩:=c;unfold Bd at h;rw [Bool.and_eq_true] at h;obtain⟨h1,h2⟩:=h;have h1':At.Fb n=true:=h1;cases k with
 | rg lo hi =>
  have h3:lo<=hi:=by simpa [iV] using h2
  have h0:(⟨#[]⟩:ByteArray).size=0:=rfl;simp [r5,Nt,kN,jg,jh,kT,h1',h3,h0]
 | tx t =>
  have h3:t.size<=12:=by simpa [iV] using h2
  simp [r5,Nt,kN,jg,jh,kT,h1',h3]
 | pr t =>
  have h3:t.size<12:=by simpa [iV] using h2
  have h4:t.size<=11:=by omega
  simp [r5,Nt,kN,jg,jh,kT,h1',h4]
theorem Hg (l:List C5) (h1:l.Pairwise fun x y=>Op.bytesLess x.1.toList y.1.toList=true) (h2:l.length<=5) (h3:∀ c∈l,Nt c=true):jd l=true:=by
 rw [Ju l fun j hj=>?_]
 ·simpa using h2
 unfold QT;rw [aM hj];simp only [Bool.and_eq_true];refine⟨h3 _ (List.getElem_mem hj),?_⟩;cases j with
 | zero=>rfl
 | succ j =>
  rw [Bool.or_eq_true];right;rw [Nat.add_sub_cancel,aM (by omega)];exact List.pairwise_iff_getElem.1 h1 j (j+1) (by omega) hj (by omega)
theorem JM (has vals:List Int):jd ((o8 has vals 7).map r5)=true:=by
 have h:=Qg has vals;refine Hg _ ?_ (by rw [List.length_map]; exact h.five) fun c hc=>?_
 ·rw [List.pairwise_map];exact h.rise
 ·obtain⟨x,hx,rfl⟩:=List.mem_map.1 hc;exact aaA x (h.good x hx)
end Av
namespace Bk
open Go.RowKit Go.Sort Rw YtkcfgbddlpomgaaGreat.Nm Pr
end Bk
namespace Av
open Go.RowKit Go.Sort Rw YtkcfgbddlpomgaaGreat.Nm Pr Bk
structure xM (W:aC) (b:Br) (nv av sv ev ov:Sl):Prop where
 br:gZ W b nv av sv ev ov
 no:kH W nv b.near
theorem xM.on {W W':aC} {b:Br} {nv av sv ev ov:Sl} (h:xM W b nv av sv ev ov) (hb:Below W.heap.size W W'):xM W' b nv av sv ev ov:=⟨h.br.on hb,h.no.on hb⟩
theorem xM.keep {W W':aC} {k:Nat} {me:Int} {s1 s2 s3 s4 s5:Sl} {b:Br} {nv av sv ev ov:Sl} (h:xM W b nv av sv ev ov) (hb:dG W k (iY me s1 s2 s3 s4 s5) 33) (hk:But k W W'):xM W' b nv av sv ev ov:=by
 obtain⟨B,hn⟩:=h.no;have hn2:mq W' B (dK nv) b.near:=hk.own hn hb (by decide);exact⟨eT h.br hb hk.1 (Row.dn hn2),B,hn2⟩
theorem Sw (W:aC) (me:Int) {near:List Int} {nv:Sl} (h:qW W (dK nv) near):gZ W ⟨me,near,[],[],[],[]⟩ nv (O,0,0) (O,0,0) (O,0,0) (O,0,0):=⟨h,⟨[],jf _,.nil⟩,jf _,⟨[],jf _,.nil⟩,⟨[],jf _,.nil⟩⟩
theorem sQ:∀ {l m:List Int},l.Pairwise (·<·)->m.Pairwise (·<·)->(∀ x,x∈l↔x∈m)->l=m
 | [],[],_,_,_=>rfl
 | [],y::m,_,_,h=>by have:=(h y).2 (by simp); simp at this
 | x::l,[],_,_,h=>by have:=(h x).1 (by simp); simp at this
 | x::l,y::m,hl,hm,h=>by
  have hl':=aU.1 hl;have hm':=aU.1 hm;have h1:x=y:=by
   rcases aN.1 ((h x).1 (by simp)) with e|e
   ·exact e
   ·rcases aN.1 ((h y).2 (by simp)) with e2|e2
    ·exact e2.symm
    ·have a1:=hm'.1 x e;have a2:=hl'.1 y e2;omega
  subst h1;rw [sQ hl'.2 hm'.2 fun z=>⟨fun hz=>?_,fun hz=>?_⟩]
  ·rcases aN.1 ((h z).1 (aS _ hz)) with e|e
   ·have:=hl'.1 z hz;omega
   ·exact e
  ·rcases aN.1 ((h z).2 (aS _ hz)) with e|e
   ·have:=hm'.1 z hz;omega
   ·exact e
theorem Oc {W W':aC} {b:Nat} (h:W.grownBy W' (aA b)):But b W W':=⟨fun k hk hne=>h.block k hk (by simpa using hne),h.size⟩
end Av
namespace Bk
open Go.RowKit Go.Sort Rw YtkcfgbddlpomgaaGreat.Nm Pr Rl
theorem zF {W:aC}:∀ {l:List jv} {m:List Ad} {x:Id},dX (sW W) l m->eU (l.map fun y=>(y.1,y.2.1)) x=-1->m.find? (fun a=>decide (a.id=x))=O
 | _,_,_,.nil,_=>rfl
 | a::l,b::m,x,.cons h t,hf=>by
  rw [aJ,eU] at hf;by_cases g:(a.1,a.2.1)=x
  ·rw [if_pos g] at hf; exact absurd hf (by decide)
  ·rw [if_neg g] at hf;have h2:eU (l.map fun y=>(y.1,y.2.1)) x=-1:=by
    by_cases g2:eU (l.map fun y=>(y.1,y.2.1)) x=-1
    ·exact g2
    ·rw [if_neg g2] at hf;have:=mE (l.map fun y=>(y.1,y.2.1)) x;omega
   rw [aR (by simpa [<- h.1] using g)];exact zF t h2
theorem zG {W:aC}:∀ {l:List jv} {m:List Ad} {x:Id} {k:Nat} {y:jv},dX (sW W) l m->eU (l.map fun y=>(y.1,y.2.1)) x=k->l[k]?=aA y->∃ a,m.find? (fun a=>decide (a.id=x))=aA a/\sW W y a
 | _,_,_,_,_,.nil,_,hy=>by simp at hy
 | a::l,b::m,x,k,y,.cons h t,hf,hy=>by
  rw [aJ,eU] at hf;by_cases g:(a.1,a.2.1)=x
  ·rw [if_pos g] at hf;obtain rfl:k=0:=by omega
   obtain rfl:a=y:=by simpa using hy
   exact⟨b,List.find?_cons_of_pos (by simpa [<- h.1] using g),h⟩
  ·rw [if_neg g] at hf;by_cases g2:eU (l.map fun y=>(y.1,y.2.1)) x=-1
   ·rw [if_pos g2] at hf; omega
   ·rw [if_neg g2] at hf;obtain⟨j,rfl⟩:∃ j,k=j+1:=⟨k-1,by have:=mE (l.map fun y=>(y.1,y.2.1)) x; omega⟩;rw [aR (by simpa [<- h.1] using g)];exact zG (k:=j) t (by omega) (by simpa using hy)
theorem rV {α:Type} {E:Ek α} {W:aC} {so:Option bC} {sn sc:Nat} {l:List α} (h:Row E W (J so sn sc) l):l.length=sn:=by
 obtain⟨a,c,hv⟩:=h.len;simp only [Value.slice.injEq] at hv;exact hv.2.1.symm
theorem aaB {w:aC} {c d:Array aG} {s t:TypeId}:w.heap.size+1<((w.alloc (aI c s)).alloc (aI d t)).heap.size:=by simp
theorem JN (b:Br) (nv av sv ev ov:Sl) (f k0:Int) (t x:Id) (pv lv:Sl) (kS:List An) (w:aC) (h:gZ w b nv av sv ev ov) (hl:mF w (dK lv) kS) (hlen:kS.length<=100) (hn9:b.near.length<=900) (hok:∀ e∈b.ent,dM e.p) (Wn:∀ o∈b.own,dM o.p) :
  bE aF 12 #[nG b.me nv av sv ev ov,U V f,aO #[U V k0,U V t.1,U V t.2,U V x.1,U V x.2,dK pv,dK lv]] w fun e w'=>(∃ o d:Sl,e=.returned (.tuple #[dK o,dK d])/\iQ w' w.heap.size (dK o) ((jE b f t kS).1.map (puX k0 t x pv lv))/\zl w' w.heap.size (dK d) ((jE b f t kS).2.map (dlX x lv)))/\Below w.heap.size w w':=by
 obtain⟨no,nn,nc⟩:=nv;obtain⟨ao,an,ac⟩:=av;obtain⟨so,sn,sc⟩:=sv;obtain⟨eo,en,ec⟩:=ev;obtain⟨oo,dN,oc⟩:=ov;obtain⟨c,d⟩:=t;obtain⟨xc,xd⟩:=x;obtain⟨po,pn,pc⟩:=pv;obtain⟨xX,ln,lc⟩:=lv;obtain⟨la,ha1,ha2⟩:=h.dL;obtain⟨le,he1,he2⟩:=h.ent;obtain⟨lw,hw1,hw2⟩:=h.own;obtain⟨h0,X9,hX5⟩:=gG w #[U V b.me,J no nn nc,J ao an ac,J so sn sc,J eo en ec,J oo dN oc] #[U V k0,U V c,U V d,U V xc,U V xd,J po pn pc,J xX ln lc] 33 43;have hA:=rV ha1;have GB:=L h0;have X3:=L X9;have X5:=L hX5;have R1:=L (ha1.on h0);have R2:=L ha2;have HNE:=L (h.near.on h0);have HNL:=L (show b.near.length=nn/\nn<=900 from ⟨rV h.near,by have e:b.near.length=nn:=rV h.near; omega⟩);have HE1:=L (he1.on h0);have HE2:=L (he2.mono fun _ _ q=>q.on h0);have HEN:=L (rV he1);have HW1:=L (hw1.on h0);have HW2:=L (hw2.mono fun _ _ q=>q.on h0);have HWN:=L (rV hw1);have HL:=L (hl.on h0);have HLE:=L hlen;have OK:=L hok;have OO:=L Wn;have HAN:=L hA;have FD:=L (pF b.me (J no nn nc) (J eo en ec) (J so sn sc) (J oo dN oc) (ao,an,ac) la (c,d) _ (ha1.on h0));have CB:=L (show ∀ r,b.dL.find? (fun a=>decide (a.id=(c,d)))=r->jE b f (c,d) kS=match r with | some a=>if a.par=f then (toB b (c,d) kS,uY b kS) else ([],[]) | none=>([],[]) from fun r hr=>by subst hr; rfl);generalize jE b f (c,d) kS=cb at *;obtain⟨me,hme⟩:∃ me,me=b.me:=⟨_,rfl⟩;simp only [<- hme] at GB X3 X5 R1 HNE HE1 HE2 HW1 HW2 HL FD ⊢;have x0:=X9.cell 0;have x1:=X9.cell 1;have x2:=X9.cell 2;have x3:=X9.cell 3;have x4:=X9.cell 4;have x5:=X9.cell 5;have m1:=hX5.cell 1;have m2:=hX5.cell 2;simp only [aj,au,ay,<- hme] at x0 x1 x2 x3 x4 x5 m1 m2;clear h0 X9 hX5 h hl hlen hn9 hok Wn ha1 ha2 he1 he2 hw1 hw2 hA;have BL:=L (aaB (w:=w) (c:=#[U V me,J no nn nc,J ao an ac,J so sn sc,J eo en ec,J oo dN oc]) (d:=#[U V k0,U V c,U V d,U V xc,U V xd,J po pn pc,J xX ln lc]) (s:=33) (t:=43));show bE aF 12 #[aO #[U V me,J no nn nc,J ao an ac,J so sn sc,J eo en ec,J oo dN oc],U V f,aO #[U V k0,U V c,U V d,U V xc,U V xd,J po pn pc,J xX ln lc]] w _;clear hme;go_enter Tryz.func12,Tryz.ntmps12;go_upto_region 1 with fail;generalize (w.alloc (aI #[U V me,J no nn nc,J ao an ac,J so sn sc,J eo en ec,J oo dN oc] 33)).alloc (aI #[U V k0,U V c,U V d,U V xc,U V xd,J po pn pc,J xX ln lc] 43)=W at *;go_wp2_with fail;refine FD.out.mono ?_;rintro e1 w1 ⟨rfl,hb⟩;have HB:=L hb;clear FD hb x0 x1 x2 x3 x4 x5 m1 m2;rcases Dz la (c,d) with hf|⟨k,y,hf,hy⟩
 ·have hc:=CB.out _ (zF R2.out hf);rw [hf];clear hf;go_wp2;refine aH (v:=.tuple #[J O 0 0,J O 0 0]) (by simp [results,aT,go_sem]) rfl ?_;rw [hc];exact⟨⟨(O,0,0),(O,0,0),rfl,fF _ _,fF _ _⟩,GB.out.trans (HB.out.mono GB.out.size)⟩
 ·obtain⟨a,hfa,hin⟩:=zG R2.out hf hy;have hc:=CB.out _ hfa;have hkl:k<an:=by have:=(List.getElem?_eq_some_iff.1 hy).1; have:=HAN.out; omega
  rw [hf];obtain⟨p,ix,px⟩:=PI R1.out rfl HAN.out hy;obtain⟨_,_,_,p3⟩:=px w1 HB.out;have n6:decide ((k:Int)<0)=false:=decide_eq_false (by omega);obtain⟨y1,y2,y3,par⟩:=y;have hp:par=a.par:=hin.2.1;simp only at hc p3;rw [<- hp] at hc;have x2:=(X3.out.on HB.out).cell 2;simp only [aj,au,ay] at x2;obtain⟨r,hr⟩:∃ r,(par != f)=r:=⟨_,rfl⟩;have HC:=L (show cb=if r then ([],[]) else (toB b (c,d) kS,uY b kS) from by
   rw [hc,<- hr];by_cases g:par=f <;> simp [g])
  clear hc hf hy hfa hin px hp hkl;cases r
  ·clear CB;have hc:=HC.out;simp only [Bool.false_eq_true,if_false] at hc;subst hc;clear HC;have x1:=(X3.out.on HB.out).cell 1;simp only [aj,au,ay] at x1
   go_upto_block 0 with (fail)
   refine R6 _ w1 w.heap.size (w.heap.size+1) k0 c d xc xd po xX eo pn pc ln lc en ec no nn nc me _ _ _ b.near le b.ent kS _ _ _ _ _ _ _ _ _ _ _ _ _ _ _ _ _ _ _ _ _ _ _ _ _ _ _ _ _ _ _ _ _ _ _ _ _ _ _ _ _ _ _ _ _ _ _ _ _ _ _ _ _ _ _ _ _ _ _ _ _ _ _ _ _ _ _ _ _ _ _ _ _ _ _ _ _ _ _ _ _ _ _ _ _ _ _ _ _ _ _ _ _ _ _ _ _ _ _ _ _ _ _ _ _ _ _ _ _ _ _ _ _ (X3.out.on HB.out) (X5.out.on HB.out) (HNE.out.on HB.out) HNL.out (HE1.out.on HB.out) HEN.out (HE2.out.mono fun _ _ q=>q.on HB.out) OK.out (HL.out.on HB.out) HLE.out ?_;intro w2 v9 v11 v12 v14 v39 v40 v41 v42 v43 v44 v45 v46 v47 v48 v49 v50 v51 v52 v53 v54 v55 v56 v57 v58 v59 v60 v61 v62 v63 v64 v65 v66 v67 v68 v69 v70 v71 v72 v73 v74 v75 v76 v77 v78 v79 hb2 ho;have H2:=L (HB.out.trans (hb2.mono HB.out.size));have O2:=L ho;have ZZ:=L (show w.heap.size<=w1.heap.size from by have:=HB.out.size; have:=BL.out; omega);clear hb2 ho ix p3 x1 x2 n6 hr HB;have x5:=(X3.out.on H2.out).cell 5;simp only [aj,au,ay] at x5
   go_upto_block 4 with (fail)
   refine R8 _ w2 w.heap.size (w.heap.size+1) k0 c d xc xd po xX oo pn pc ln lc dN oc me _ _ _ _ lw b.own kS _ _ _ _ _ _ _ _ _ _ _ _ _ _ _ _ _ _ _ _ _ _ _ _ _ _ _ _ _ _ _ _ _ _ _ _ _ _ _ _ _ _ _ _ _ _ _ _ _ _ _ _ _ _ _ _ _ _ _ _ _ _ _ _ _ _ _ _ _ _ _ _ _ _ _ _ _ _ _ _ _ _ _ _ _ _ _ _ _ _ _ _ _ _ _ _ _ _ _ _ _ _ _ _ _ _ _ _ _ _ _ _ _ _ _ (X3.out.on H2.out) (X5.out.on H2.out) (HW1.out.on H2.out) HWN.out (HW2.out.mono fun _ _ q=>q.on H2.out) OO.out (HL.out.on H2.out) HLE.out ?_;intro w3 v15 v16 v17 v19 v80 v81 v82 v83 v84 v85 v86 v87 v88 v89 v90 v91 v92 v93 v94 v95 v96 v97 v98 v99 v100 v101 v102 v103 v104 v105 v106 v107 v108 v109 v110 v111 v112 v113 v114 v115 v116 hb3 hg;have H3:=L (H2.out.trans (hb3.mono H2.out.size));have O3:=L (dh O2.out hb3);have G3:=L hg;have Z1:=L (show w.heap.size<=w1.heap.size from ZZ.out);have Z2:=L (show w.heap.size<=w2.heap.size from by have:=H2.out.size; have:=BL.out; omega);clear hb3 hg x5 O2;obtain⟨a1,a2,hv⟩:=(Row.dn O3.out).len;obtain⟨b1,b2,hv2⟩:=(Row.dn G3.out).len;obtain⟨n1,hn1⟩:∃ n,n=(bG (puX k0 (c,d) (xc,xd) (po,pn,pc) (xX,ln,lc)) (toB b (c,d) kS)).length:=⟨_,rfl⟩;obtain⟨n2,hn2⟩:∃ n,n=(bG (dlX (xc,xd) (xX,ln,lc)) (uY b kS)).length:=⟨_,rfl⟩
   replace hv:v9=J a1 n1 a2:=by rw [hn1]; exact hv
   replace hv2:v15=J b1 n2 b2:=by rw [hn2]; exact hv2
   clear hn1 hn2;subst hv hv2;go_wp2;refine aH (v:=.tuple #[J a1 n1 a2,J b1 n2 b2]) (by simp [results,aT,go_sem]) rfl ?_;exact⟨⟨a1,n1,a2,b1,n2,b2,rfl,dx O3.out Z1.out,dx G3.out Z2.out⟩,GB.out.trans (H3.out.mono GB.out.size)⟩
  ·have hc:=HC.out;simp only [if_true] at hc;subst hc;go_wp2;refine aH (v:=.tuple #[J O 0 0,J O 0 0]) (by simp [results,aT,go_sem]) rfl ?_;exact⟨⟨O,0,0,O,0,0,rfl,fF _ _,fF _ _⟩,GB.out.trans (HB.out.mono GB.out.size)⟩
def uV (B:Nat) (bv:aG) (f c d:Int) (l:List Int) (i:Nat) (v:aG) (x:aC):Prop :=
 match i with
 | 0=>v=bv
 | 1=>v=bv
 | 2=>v=U V f
 | 3=>v=lZ (c,d)
 | 4=>v=aO #[U V 2,U V c,U V d,U V 0,U V 0,J O 0 0,J O 0 0]
 | 5=>∃ sl:Sl,v=dK sl/\iQ x B v (kW l f fun n=>(n,2,c,d,0,0,(O,0,0),(O,0,0)))
 | _=>True
noncomputable def Li:Code:=((Tryz.f62.body.bind (eu 4)).getD .skip)
theorem Sy (Q:Exit->Act->aC->Prop) (W:aC) (b3 b5 b6:Nat) (me f c d:Int) (o1 o2 o3 o4 o5:Option bC) (n1 c1 n2 c2 n3 c3 n4 c4 n5 c5:Nat) (l:List Int) (z0 z1 z2 z3 z4 z5:aG) (u0 u2 u4 u7 u8 u9 u10 u11 u12 u13 u14 u15 u16 u17 u18 u19 u20 u21 u22 u23 u24:aG)
  (h3:dG W b3 #[U V me,J o1 n1 c1,J o2 n2 c2,J o3 n3 c3,J o4 n4 c4,J o5 n5 c5] 33) (h5:dG W b5 #[U V c,U V d] 38) (h6:dG W b6 #[z0,z1,z2,z3,z4,z5] 33) (hl:qW W (J o1 n1 c1) l) (hlen:l.length<=900)
  (hQ:∀ (a:Act) (x:aC) (sl:Sl),a.defers=[]->a.tmps[6]?=aA (Z (aA ⟨b6,0,O⟩))->a.tmps[7]?=aA (dK sl)->dG x b6 #[U V me,J o1 n1 c1,J o2 n2 c2,J o3 n3 c3,J o4 n4 c4,J o5 n5 c5] 33->iQ x W.heap.size (dK sl) (kW l f fun n=>(n,2,c,d,0,0,(O,0,0),(O,0,0)))->(∀ k,k<W.heap.size->k≠b6->x.heap[k]?=W.heap[k]?)->(∀ B,B<=b6->Below B W x)->Q .normal a x) :
  Code.wp aF Li Q ⟨(u0::U V f::u2::Z (aA ⟨b3,0,O⟩)::u4::Z (aA ⟨b5,0,O⟩)::Z (aA ⟨b6,0,O⟩)::u7::u8::u9::u10::u11::u12::u13::u14::u15::u16::u17::u18::u19::u20::u21::u22::u23::u24::[]).toArray,[]⟩ W:=by
 have HQ:=L hQ;have H3:=L h3;have H5:=L h5;have H6:=L h6;have HL:=L hl;have LL:=L hlen;clear hQ h3 h5 h6 hl hlen;have iJ:∀ (j:Nat) (u:aG) (x x':aC),j<6->uV W.heap.size (aO #[U V me,J o1 n1 c1,J o2 n2 c2,J o3 n3 c3,J o4 n4 c4,J o5 n5 c5]) f c d l j u x->Below x.heap.size x x'->uV W.heap.size (aO #[U V me,J o1 n1 c1,J o2 n2 c2,J o3 n3 c3,J o4 n4 c4,J o5 n5 c5]) f c d l j u x':=by
  intro i u x x' hi h hb;rcases (by omega:i=0\/i=1\/i=2\/i=3\/i=4\/i=5) with rfl|rfl|rfl|rfl|rfl|rfl
  ·exact h
  ·exact h
  ·exact h
  ·exact h
  ·exact h
  ·obtain⟨sl,h1,h2⟩:=h;exact⟨sl,h1,dh h2 hb⟩
 unfold Li
 conv=>arg 2; whnf
 have nd:∀ j,(j<19\/25<=j)->∀ i,i<6->(fun i=>19+i) i≠j:=by
  intro j hj i hi h;simp only at h;omega
 refine bJ 8 6 (fun i=>19+i) (fun _=>6) (uV W.heap.size (aO #[U V me,J o1 n1 c1,J o2 n2 c2,J o3 n3 c3,J o4 n4 c4,J o5 n5 c5]) f c d l) (by kernel_rfl) (by kernel_rfl) rfl (by decide) (fun i j _ _ h=>by have h2:19+i=19+j:=h; omega) (fun i hi=>by show 19+i<25; omega) ?_ (fun _=>bK 3 (by kernel_rfl)) ?_ ?_
 ·intro i o hi ho a x D hnd hc hD hb seen K hK;clear HQ;rcases (by omega:i=0\/i=1\/i=2\/i=3\/i=4\/i=5) with rfl|rfl|rfl|rfl|rfl|rfl
  ·cases ho;have e3:a.eval (ak 3)=Z (aA ⟨b3,0,O⟩):=seen.kp 3 _ (nd 3 (by omega)) rfl;exact aB rfl rfl (aZ a.eval _ 33 (ak 3) rfl (by rw [e3]; exact wm (H3.out.on hb))) (hK _ _ rfl (ah _ _) fun _ _ _ _ _ _ _ h=>h)
  ·cases ho;have e3:a.eval (ak 3)=Z (aA ⟨b3,0,O⟩):=seen.kp 3 _ (nd 3 (by omega)) rfl;exact aB rfl rfl (aZ a.eval _ 33 (ak 3) rfl (by rw [e3]; exact wm (H3.out.on hb))) (hK _ _ rfl (ah _ _) fun _ _ _ _ _ _ _ h=>h)
  ·cases ho;have e1:a.eval (ak 1)=U V f:=seen.kp 1 _ (nd 1 (by omega)) rfl;exact aB rfl rfl (bF a.eval _ (ak 1) rfl x) (hK _ _ e1 (ah _ _) fun _ _ _ _ _ _ _ h=>h)
  ·cases ho;have e5:a.eval (ak 5)=Z (aA ⟨b5,0,O⟩):=seen.kp 5 _ (nd 5 (by omega)) rfl;exact aB rfl rfl (aZ a.eval _ 38 (ak 5) rfl (by rw [e5]; exact Bp x _ (c,d) (Kr (H5.out.on hb)))) (hK _ _ rfl (ah _ _) fun _ _ _ _ _ _ _ h=>h)
  ·cases ho;have e22:a.eval (ak 22)=lZ (c,d):=seen.at_ ⟨3,.data⟩ (by simp) rfl (aD (by decide));exact aB rfl rfl (bL a.eval _ 43 #[(0,.const (U V 2)),(1,ak 22)] rfl (ps:=#[(0,U V 2),(1,lZ (c,d))]) (by simp only [aP,aJ,aX,e22]; rfl) (by simp [go_sem])) (hK _ _ rfl (ah _ _) fun _ _ _ _ _ _ _ h=>h)
  ·cases ho;have e20:a.eval (ak 20)=aO #[U V me,J o1 n1 c1,J o2 n2 c2,J o3 n3 c3,J o4 n4 c4,J o5 n5 c5]:=seen.at_ ⟨1,.data⟩ (by simp) rfl (aD (by decide));have e21:a.eval (ak 21)=U V f:=seen.at_ ⟨2,.data⟩ (by simp) rfl (aD (by decide));have e23:a.eval (ak 23)=aO #[U V 2,U V c,U V d,U V 0,U V 0,J O 0 0,J O 0 0]:=seen.at_ ⟨4,.data⟩ (by simp) rfl (aD (by decide));exact Rg.gq rfl rfl (Ce a.eval _ (ak 20) (ak 21) (ak 23) 33 3 43 61 rfl e20 e21 e23 rfl _ (fK Tryz.func61 rfl rfl _ _)) (yM me f 2 c d 0 0 (o1,n1,c1) _ _ _ _ (O,0,0) (O,0,0) l x (HL.out.on hb) LL.out) fun e w1 h=>by
    obtain⟨⟨v,rfl,h1⟩,h3⟩:=h;exact⟨_,rfl,hK _ _ ⟨v,rfl,dx h1 hb.size⟩ (h3.mono hb.size) fun j u hj _ _ _ hne h=>iJ j u _ _ (by omega) h h3⟩
 ·intro kk o h1 h2 ho;obtain rfl:kk=7:=by omega
  cases ho;exact⟨⟨6,.chain⟩,by simp,rfl,rfl⟩
 ·intro a w' df sz kp ⟨vs,hv⟩ hb;have g19:a.tmps[19]?=aA (aO #[U V me,J o1 n1 c1,J o2 n2 c2,J o3 n3 c3,J o4 n4 c4,J o5 n5 c5]):=by
   have h:vs 0=aO #[U V me,J o1 n1 c1,J o2 n2 c2,J o3 n3 c3,J o4 n4 c4,J o5 n5 c5]:=(hv 0 (by omega)).2 (by decide);rw [<- h];exact (hv 0 (by omega)).1
  obtain⟨sl,hsl,ho⟩:=(hv 5 (by omega)).2 (by decide);have g24:a.tmps[24]?=aA (dK sl):=by
   rw [<- hsl];exact (hv 5 (by omega)).1
  rw [hsl] at ho;have g6:a.tmps[6]?=aA (Z (aA ⟨b6,0,O⟩)):=(kp 6 (nd 6 (by omega))).trans rfl;have sz':a.tmps.size=25:=sz;have H6':=H6.out.on hb;have lt6:=H6.out.lt;show bD _ _ _ 2 6 a w';simp only [bD];refine Rg.fI 33 (ak 6) (ak 19) rfl rfl rfl rfl (bf g6) (bf g19) (w':=gM w' b6 (U V me) (J o1 n1 c1) (J o2 n2 c2) (J o3 n3 c3) (J o4 n4 c4) (J o5 n5 c5)) (sH H6' me _ _ _ _ _ _ _ _ _ _ _ _ _ _ _) ?_;refine aB rfl rfl (Rg.kM a.eval _ (ak 24) rfl _) ?_;rw [bf g24];refine HQ.out _ _ sl df ((bg a 7 (dK sl) 6 (by decide)).trans g6) ?_ (dH H6' _ _ _ _ _ _) (fC ho b6 lt6 _ _ _ _ _ _) ?_ ?_
  ·have:7<a.tmps.size:=by omega
   show (a.put (aA 7) (dK sl)).tmps[7]?=_;simp [Act.put,this]
  ·intro k hk hne;exact (dB w' b6 (U V me) (J o1 n1 c1) (J o2 n2 c2) (J o3 n3 c3) (J o4 n4 c4) (J o5 n5 c5) k hne).trans (hb.block k hk)
  ·exact fun B hB=>dw (hb.mono (aQ (aV hB lt6))) hB _ _ _ _ _ _
def zH (b:Br) (f:Int) (x:Id):List nH:=if (gJ b x f).2=true then kW b.near f (fun n=>(n,2,x.1,x.2,0,0,(O,0,0),(O,0,0))) else []
theorem jW (b:Br) (x:Id) (f:Int):(gJ b x f).1.near=b.near/\(gJ b x f).1.me=b.me:=by
 unfold gJ
 split
 ·exact⟨rfl,rfl⟩
 ·split
  ·exact⟨rfl,rfl⟩
  ·split <;> exact⟨rfl,rfl⟩
theorem JO (b:Br) (nv av sv ev ov:Sl) (x:Id) (f:Int) (w:aC) (h:gZ w b nv av sv ev ov) (l1:b.near.length<=900) (l2:b.dL.length<=900) (l3:b.ent.length<=900) :
  bE aF 62 #[nG b.me nv av sv ev ov,U V f,lZ x] w fun e w'=>(∃ AP ev' sl:Sl,e=.returned (.tuple #[nG b.me nv AP sv ev' ov,dK sl])/\gZ w' (gJ b x f).1 nv AP sv ev' ov/\FM w' (dK sl) (zH b f x))/\Below w.heap.size w w':=by
 obtain⟨no,nn,nc⟩:=nv;obtain⟨ao,an,ac⟩:=av;obtain⟨so,sn,sc⟩:=sv;obtain⟨eo,en,ec⟩:=ev;obtain⟨oo,dN,oc⟩:=ov;obtain⟨c,d⟩:=x;have FG:=L (fun W hb'=>Fy b (no,nn,nc) (ao,an,ac) (so,sn,sc) (eo,en,ec) (oo,dN,oc) (c,d) f W (h.on (show Below w.heap.size w W from hb')) l2 l3);have vL:=L h.near;have L1:=L l1;obtain⟨h0,h1,h2,h3⟩:=gL w #[U V b.me,J no nn nc,J ao an ac,J so sn sc,J eo en ec,J oo dN oc] #[U V c,U V d] #[U V 0,J O 0 0,J O 0 0,J O 0 0,J O 0 0,J O 0 0] 33 38 33;obtain⟨me,hme⟩:∃ me,me=b.me:=⟨_,rfl⟩;simp only [<- hme] at h0 h1 h2 h3 FG ⊢;have B0:=L h0;have X2:=L h1;have X3:=L h2;have X5:=L h3;clear h0 h1 h2 h3 h l1 l2 l3 hme;show bE aF 62 #[aO #[U V me,J no nn nc,J ao an ac,J so sn sc,J eo en ec,J oo dN oc],U V f,aO #[U V c,U V d]] w _;go_enter Tryz.func62,Tryz.ntmps62;go_upto_region 1 with fail;generalize (((w.alloc (aI #[U V me,J no nn nc,J ao an ac,J so sn sc,J eo en ec,J oo dN oc] 33)).alloc (aI #[U V c,U V d] 38)).alloc (aI #[U V 0,J O 0 0,J O 0 0,J O 0 0,J O 0 0,J O 0 0] 33))=W at *;have SW:=L (FG.out W B0.out);have x_:=X2.out;have y_:=X3.out;obtain⟨x0,x1,x2,x3,x4,x5⟩:=x_.eZ;obtain⟨y0,y1⟩:=y_.cs2;clear x_ y_ FG;go_wp2_with fail;refine SW.out.mono ?_;rintro e1 w1 ⟨⟨⟨Lj,ko,kr⟩,⟨Ll,gT,gU⟩,rfl,hbr⟩,hb⟩;obtain⟨fb,Jy⟩:∃ r,(gJ b (c,d) f).2=r:=⟨_,rfl⟩;have LB:=L Jy;rw [Jy];have B1:=L (B0.out.trans (hb.mono B0.out.size));have Y2:=X2.out.on hb;have Y3:=X3.out.on hb;have Y5:=X5.out.on hb;obtain⟨k0,k1,k2,k3,k4,k5⟩:=Y2.eZ;obtain⟨t0,t1,t2,t3,t4,t5⟩:=Y2.kg;have zz:=Y2.lt;have FB:=L (dH Y2 (U V me) (J no nn nc) (J Lj ko kr) (J so sn sc) (J Ll gT gU) (J oo dN oc));have B2:=L (dw (b:=w.heap.size) B1.out (aL _) (U V me) (J no nn nc) (J Lj ko kr) (J so sn sc) (J Ll gT gU) (J oo dN oc));have F3:=L (show dG _ _ _ _ from (dB w1 w.heap.size (U V me) (J no nn nc) (J Lj ko kr) (J so sn sc) (J Ll gT gU) (J oo dN oc) (w.heap.size+1) (by omega)).trans Y3);have F5:=L (show dG _ _ _ _ from (dB w1 w.heap.size (U V me) (J no nn nc) (J Lj ko kr) (J so sn sc) (J Ll gT gU) (J oo dN oc) (w.heap.size+1+1) (by omega)).trans Y5);have HB:=L (eT (s1:=(no,nn,nc)) (s2:=(ao,an,ac)) (s3:=(so,sn,sc)) (s4:=(eo,en,ec)) (s5:=(oo,dN,oc)) hbr Y2 (fun j _ hj=>dB w1 w.heap.size (U V me) (J no nn nc) (J Lj ko kr) (J so sn sc) (J Ll gT gU) (J oo dN oc) j hj) (by rw [(jW b (c,d) f).1]; exact vL.out.on B2.out));clear Jy hbr hb SW X2 X3 X5 B1 Y2 Y3 Y5 x0 x1 x2 x3 x4 x5 y0 y1;go_upto_region 2 with fail;clear zz k0 k1 k2 k3 k4 k5 t0 t1 t2 t3 t4 t5;unfold gM at FB B2 F3 F5 HB;generalize ((((((w1.setCell ⟨w.heap.size,0,O⟩ (U V me)).setCell ⟨w.heap.size,1,O⟩ (J no nn nc)).setCell ⟨w.heap.size,2,O⟩ (J Lj ko kr)).setCell ⟨w.heap.size,3,O⟩ (J so sn sc)).setCell ⟨w.heap.size,4,O⟩ (J Ll gT gU)).setCell ⟨w.heap.size,5,O⟩ (J oo dN oc))=w2 at *;cases fb
 ·have x_:=FB.out;have r_:=F5.out;obtain⟨x0,x1,x2,x3,x4,x5⟩:=x_.eZ;obtain⟨r0,r1,r2,r3,r4,r5⟩:=r_.eZ;obtain⟨t0,t1,t2,t3,t4,t5⟩:=r_.kg;have zz:=r_.lt;have GB:=L (dH r_ (U V me) (J no nn nc) (J Lj ko kr) (J so sn sc) (J Ll gT gU) (J oo dN oc));have BL:=L (dw (b:=w.heap.size+1+1) B2.out (by omega) (U V me) (J no nn nc) (J Lj ko kr) (J so sn sc) (J Ll gT gU) (J oo dN oc));have HC:=L (eT (s1:=(O,0,0)) (s2:=(O,0,0)) (s3:=(O,0,0)) (s4:=(O,0,0)) (s5:=(O,0,0)) HB.out r_ (fun j _ hj=>dB w2 (w.heap.size+1+1) (U V me) (J no nn nc) (J Lj ko kr) (J so sn sc) (J Ll gT gU) (J oo dN oc) j hj) (by rw [(jW b (c,d) f).1]; exact vL.out.on BL.out));clear x_ r_ HB FB F3 F5;go_wp2_with fail;obtain⟨v0,v1,v2,v3,v4,v5⟩:=GB.out.eZ;refine aH (v:=.tuple #[aO #[U V me,J no nn nc,J Lj ko kr,J so sn sc,J Ll gT gU,J oo dN oc],J O 0 0]) (by simp [results,bn,go_sem,v0,v1,v2,v3,v4,v5]) rfl ?_;exact⟨⟨(Lj,ko,kr),(Ll,gT,gU),(O,0,0),rfl,HC.out,by unfold zH; rw [LB.out]; exact bA ⟨rfl,rfl⟩⟩,BL.out⟩
 ·go_upto_region 4 with fail;refine Sy _ w2 w.heap.size (w.heap.size+1) (w.heap.size+1+1) me f c d no Lj so Ll oo nn nc ko kr sn sc gT gU dN oc b.near _ _ _ _ _ _ _ _ _ _ _ _ _ _ _ _ _ _ _ _ _ _ _ _ _ _ _ FB.out F3.out F5.out (vL.out.on B2.out) L1.out ?_;intro a9 x9 sl Gn h69 h79 hbx ho hblk hbl;have BL:=L (B2.out.trans (hbl w.heap.size (by omega)));have HC:=L (eT (s1:=(O,0,0)) (s2:=(O,0,0)) (s3:=(O,0,0)) (s4:=(O,0,0)) (s5:=(O,0,0)) HB.out F5.out (fun j hlt hj=>hblk j hlt hj) (by rw [(jW b (c,d) f).1]; exact vL.out.on BL.out));have HU:=L (Row.dn ho);have acM:=hbx;obtain⟨v0,v1,v2,v3,v4,v5⟩:=acM.eZ;clear acM hbx ho hblk hbl HB FB F3 F5;simp only [Exit.then]
  apply_assumption
  go_wp2_with fail;refine aH (v:=.tuple #[aO #[U V me,J no nn nc,J Lj ko kr,J so sn sc,J Ll gT gU,J oo dN oc],dK sl]) (by simp [results,bn,go_sem,h69,h79,v0,v1,v2,v3,v4,v5]) Gn ?_;exact⟨⟨(Lj,ko,kr),(Ll,gT,gU),sl,rfl,HC.out,by unfold zH; rw [LB.out]; exact HU.out⟩,BL.out⟩
def Em (B b2 _:Nat) (so:Option bC) (sn sc at_:Nat) (lo hiv:aG) (z:qy) (lt ld:List qy) (i:Nat) (v:aG) (x:aC):Prop :=
 match i with
 | 0=>∃ g,v=J (aA ⟨g,0,O⟩) 0 0/\B<=g/\dG x g #[] 61
 | 1=>v=Z (aA ⟨b2,5,O⟩)
 | 2=>v=J so sn sc
 | 3=>v=U V (at_:Int)
 | 4=>v=lo
 | 5=>pE x B v lt
 | 6=>v=lZ (z.1,z.2.1)
 | 7=>v=dK z.2.2
 | 8=>v=PO z
 | 9=>pE x B v [z]
 | 10=>pE x B v (lt++[z])
 | 11=>v=Z (aA ⟨b2,5,O⟩)
 | 12=>v=J so sn sc
 | 13=>v=U V (at_:Int)
 | 14=>v=hiv
 | 15=>pE x B v (lt++[z]++ld)
 | 16=>v=Z (aA ⟨b2,5,O⟩)
 | _=>True
noncomputable def Sz:Code:=((Tryz.f27.body.bind (eu 6)).getD .skip)
theorem Od (B b2 b3:Nat) (so:Option bC) (sn sc at_:Nat) (lo hiv:aG) (z:qy) (lt ld:List qy) (i:Nat) (v:aG) (x x':aC) (h:Em B b2 b3 so sn sc at_ lo hiv z lt ld i v x) (hb:Below x.heap.size x x'):Em B b2 b3 so sn sc at_ lo hiv z lt ld i v x':=by
 by_cases hi:i<17
 ·rcases (by omega:i=0\/i=1\/i=2\/i=3\/i=4\/i=5\/i=6\/i=7\/i=8\/i=9\/i=10\/i=11\/i=12\/i=13\/i=14\/i=15\/i=16) with rfl|rfl|rfl|rfl|rfl|rfl|rfl|rfl|rfl|rfl|rfl|rfl|rfl|rfl|rfl|rfl|rfl
  ·obtain⟨g,h1,h2,h3⟩:=h;exact⟨g,h1,h2,h3.on hb⟩
  ·exact h
  ·exact h
  ·exact h
  ·exact h
  ·exact dh h hb
  ·exact h
  ·exact h
  ·exact h
  ·exact dh h hb
  ·exact dh h hb
  ·exact h
  ·exact h
  ·exact h
  ·exact h
  ·exact dh h hb
  ·exact h
 ·unfold Em
  split <;> first | omega | trivial
theorem Ya (Q:Exit->Act->aC->Prop) (W:aC) (b2 b3:Nat) (me:Int) (y1 y2 y3 y4:aG) (so:Option bC) (sn sc at_:Nat) (l:List qy) (z:qy) (u0 u1 u5 u6 u7 u9 u10 u11 u12 u13 u14 u15 u16 u17 u18 u19 u20 u21 u22 u23 u24 u25 u26 u27 u28 u29 u30 u31 u32 u33 u34 u35 u36 u37 u38 u39 u40 u41 u42 u43 u44 u45 u46 u47 u48 u49 u50 u51 u52 u53 u54 u55 u56 u57 u58 u59 u60 u61 u62 u63 u64 u65 u66 u67 u68 u69 u70 u71 u72 u73 u74 u75 u76 u77 u78 u79 u80 u81 u82 u83 u84 u85 u86 u87 u88 u89 u90 u91 u92 u93 u94 u95 u96 u97 u98:aG)
  (h2:dG W b2 #[U V me,y1,y2,y3,y4,J so sn sc] 33) (hx:∀ x,Below W.heap.size W x->∀ j u,(ji (z.1,z.2.1))[j]?=aA u->x.cell? ((⟨b3,0,O⟩:bC).add j)=aA u) (hs:Fx W (J so sn sc) l) (hat:at_<=l.length) (hlen:l.length<=900)
  (hQ:∀ (x:aC) (v47 v48 v49 v50 v51 v52 v53 v54 v55 v56 v57 v58 v59 v60 v61 v62 v63:aG),dG x b2 #[U V me,y1,y2,y3,y4,v62] 33->pE x W.heap.size v62 (l.take at_++[z]++l.drop at_)->(∀ B,B<=b2->Below B W x)->(∀ c cs t,c≠b2->dG W c cs t->dG x c cs t)->(∀ k,k<W.heap.size->k≠b2->x.heap[k]?=W.heap[k]?)->Q .normal ⟨(u0::u1::dK z.2.2::Z (aA ⟨b2,0,O⟩)::Z (aA ⟨b3,0,O⟩)::u5::u6::u7::U V (at_:Int)::u9::u10::u11::u12::u13::u14::u15::u16::u17::u18::u19::u20::u21::u22::u23::u24::u25::u26::u27::u28::u29::u30::u31::u32::u33::u34::u35::u36::u37::u38::u39::u40::u41::u42::u43::u44::u45::u46::v47::v48::v49::v50::v51::v52::v53::v54::v55::v56::v57::v58::v59::v60::v61::v62::v63::u64::u65::u66::u67::u68::u69::u70::u71::u72::u73::u74::u75::u76::u77::u78::u79::u80::u81::u82::u83::u84::u85::u86::u87::u88::u89::u90::u91::u92::u93::u94::u95::u96::u97::u98::[]).toArray,[]⟩ x) :
  Code.wp aF Sz Q ⟨(u0::u1::dK z.2.2::Z (aA ⟨b2,0,O⟩)::Z (aA ⟨b3,0,O⟩)::u5::u6::u7::U V (at_:Int)::u9::u10::u11::u12::u13::u14::u15::u16::u17::u18::u19::u20::u21::u22::u23::u24::u25::u26::u27::u28::u29::u30::u31::u32::u33::u34::u35::u36::u37::u38::u39::u40::u41::u42::u43::u44::u45::u46::u47::u48::u49::u50::u51::u52::u53::u54::u55::u56::u57::u58::u59::u60::u61::u62::u63::u64::u65::u66::u67::u68::u69::u70::u71::u72::u73::u74::u75::u76::u77::u78::u79::u80::u81::u82::u83::u84::u85::u86::u87::u88::u89::u90::u91::u92::u93::u94::u95::u96::u97::u98::[]).toArray,[]⟩ W:=by
 have HQ:=L hQ;have H2:=L h2;have LX:=L hx;obtain⟨lo,AA,uz⟩:=tV okW hs at_ (by omega);obtain⟨hiv,AJ,vS⟩:=oN okW hs (at_) hat;have LT:=L (show (l.take at_).length<=1000 by rw [aY]; omega);have PU:=L (show (l.take at_).length<=900 by rw [aY]; omega);have LD:=L (show (l.drop (at_)).length<=1000 by rw [List.length_drop]; omega);generalize l.take at_=lt at *;generalize l.drop (at_)=ld at *;have SL:=L AA;have SH:=L AJ;have RL:=L uz;have RH:=L vS;clear hQ h2 hx hs AA AJ uz vS hat hlen;have iJ:=Od W.heap.size b2 b3 so sn sc at_ lo hiv z lt ld;unfold Sz
 conv=>arg 2; whnf
 have nd:∀ j,(j<47\/64<=j)->∀ i,i<17->(fun i=>47+i) i≠j:=by
  intro j hj i hi h;simp only at h;omega
 refine bJ 18 17 (fun i=>47+i) (fun i=>if i=0 then 5 else if i=5 then 10 else if i=9 then 10 else if i=10 then 15 else 17) (Em W.heap.size b2 b3 so sn sc at_ lo hiv z lt ld) (by kernel_rfl) (by kernel_rfl) rfl (by decide) (fun i j _ _ h=>by have h2:47+i=47+j:=h; omega) (fun i hi=>by show 47+i<99; omega) ?_ (fun _=>bK 1 (by kernel_rfl)) (fun kk o h1 h2=>by omega) ?_
 ·intro i o hi ho a x D hnd hc hD hb seen K hK;clear HQ;rcases (by omega:i=0\/i=1\/i=2\/i=3\/i=4\/i=5\/i=6\/i=7\/i=8\/i=9\/i=10\/i=11\/i=12\/i=13\/i=14\/i=15\/i=16) with rfl|rfl|rfl|rfl|rfl|rfl|rfl|rfl|rfl|rfl|rfl|rfl|rfl|rfl|rfl|rfl|rfl
  ·cases ho;exact aB rfl rfl (bN a.eval _ 31 0 #[] rfl rfl (by simp [go_sem])) (hK (J (aA ⟨x.heap.size,0,O⟩) 0 0) (x.alloc (aI #[] 61)) ⟨x.heap.size,rfl,hb.size,dI x #[] 61⟩ ((ah _ _).alloc hb.size _) fun j u _ _ _ _ _ h=>iJ j u _ _ h ((ah _ _).alloc (aL _) _))
  ·cases ho;have e3:a.eval (ak 3)=Z (aA ⟨b2,0,O⟩):=seen.kp 3 _ (nd 3 (by omega)) rfl;exact aB rfl rfl (bH a.eval _ 33 (ak 3) 5 rfl (by rw [e3]; simp [go_sem])) (hK _ _ rfl (ah _ _) fun _ _ _ _ _ _ _ h=>h)
  ·cases ho;have e48:a.eval (ak 48)=Z (aA ⟨b2,5,O⟩):=seen.at_ ⟨1,.data⟩ (by simp) rfl (aD (by decide));have y:=(H2.out.on hb).cell 5;simp only [aj,au,ay] at y;exact aB rfl rfl (aZ a.eval _ 31 (ak 48) rfl (by rw [e48]; simp [go_sem,y])) (hK _ _ rfl (ah _ _) fun _ _ _ _ _ _ _ h=>h)
  ·cases ho;have e8:a.eval (ak 8)=U V (at_:Int):=seen.kp 8 _ (nd 8 (by omega)) rfl;exact aB rfl rfl (bF a.eval _ (ak 8) rfl x) (hK _ _ e8 (ah _ _) fun _ _ _ _ _ _ _ h=>h)
  ·cases ho;have e49:a.eval (ak 49)=J so sn sc:=seen.at_ ⟨2,.data⟩ (by simp) rfl (aD (by decide));have e50:a.eval (ak 50)=U V (at_:Int):=seen.at_ ⟨3,.data⟩ (by simp) rfl (aD (by decide));exact aB rfl rfl (Rg.jI a.eval _ 31 (ak 49) O (aA (ak 50)) O rfl (by show (Instr.sliceAt 31 (a.eval (ak 49)) O (aA (a.eval (ak 50))) O).run aF x=.ok lo x; rw [e49,e50]; exact SL.out x)) (hK _ _ rfl (ah _ _) fun _ _ _ _ _ _ _ h=>h)
  ·cases ho;obtain⟨g,q0,hBg,hbx⟩:=seen.at_ ⟨0,.data⟩ (by simp) rfl (bA rfl);have q0:a.eval (ak 47)=J (aA ⟨g,0,O⟩) 0 0:=q0;have e51:a.eval (ak 51)=lo:=seen.at_ ⟨4,.data⟩ (by simp) rfl (aD (by decide));obtain⟨v',x',r,o',gr⟩:=iA okW W.heap.size hbx hBg (RL.out.on hb) LT.out 31;exact aB rfl rfl (bI a.eval _ (ak 47) (ak 51) 31 rfl q0 e51 r) (hK v' x' o' (gr.mono hb.size) fun j u _ _ _ _ _ h=>iJ j u _ _ h gr)
  ·cases ho;have e4:a.eval (ak 4)=Z (aA ⟨b3,0,O⟩):=seen.kp 4 _ (nd 4 (by omega)) rfl;exact aB rfl rfl (aZ a.eval _ 38 (ak 4) rfl (by rw [e4]; exact Bp x _ (z.1,z.2.1) (LX.out x hb))) (hK _ _ rfl (ah _ _) fun _ _ _ _ _ _ _ h=>h)
  ·cases ho;have e2:a.eval (ak 2)=dK z.2.2:=seen.kp 2 _ (nd 2 (by omega)) rfl;exact aB rfl rfl (bF a.eval _ (ak 2) rfl x) (hK _ _ e2 (ah _ _) fun _ _ _ _ _ _ _ h=>h)
  ·cases ho;have e53:a.eval (ak 53)=lZ (z.1,z.2.1):=seen.at_ ⟨6,.data⟩ (by simp) rfl (aD (by decide));have e54:a.eval (ak 54)=dK z.2.2:=seen.at_ ⟨7,.data⟩ (by simp) rfl (aD (by decide));exact aB rfl rfl (bL a.eval _ 61 #[(0,ak 53),(1,ak 54)] rfl (ps:=#[(0,lZ (z.1,z.2.1)),(1,dK z.2.2)]) (by simp only [aP,aJ,aX,e53,e54]) (by simp [go_sem])) (hK _ _ rfl (ah _ _) fun _ _ _ _ _ _ _ h=>h)
  ·cases ho;have e55:a.eval (ak 55)=PO z:=seen.at_ ⟨8,.data⟩ (by simp) rfl (aD (by decide));have hl:=gH okW x [z] 1 rfl (by simp) (tX z).toArray (by simp [flat,EW]);have hl:pE (x.alloc (aI (tX z).toArray 61)) x.heap.size (J (aA ⟨x.heap.size,0,O⟩) 1 1) [z]:=hl;exact aB rfl rfl (bN a.eval _ 31 1 #[(0,ak 55)] rfl (ps:=#[(0,PO z)]) (by simp [e55]) (by simp [go_sem])) (hK (J (aA ⟨x.heap.size,0,O⟩) 1 1) (x.alloc (aI (tX z).toArray 61)) (dx hl hb.size) ((ah _ _).alloc hb.size _) fun j u _ _ _ _ _ h=>iJ j u _ _ h ((ah _ _).alloc (aL _) _))
  ·cases ho;have o52:pE x W.heap.size (a.eval (ak 52)) (lt):=seen.at_ ⟨5,.data⟩ (by simp) rfl (bA rfl);have o56:pE x W.heap.size (a.eval (ak 56)) ([z]):=seen.at_ ⟨9,.data⟩ (by simp) rfl (bA rfl);have ox:=Row.dn o56;obtain⟨v',x',r,o',gr⟩:=fO okW W.heap.size o52 ox (by have:=LT.out; omega) (by simp) hb.size 31;exact aB rfl rfl (bI a.eval _ (ak 52) (ak 56) 31 rfl rfl rfl r) (hK v' x' o' ((ah _ x).grown gr hb.size fun j hj=>(o52.lt j hj).1) fun j u hj dj nl nx ni h=>by
    rcases (by omega:j=0\/j=1\/j=2\/j=3\/j=4\/j=5\/j=6\/j=7\/j=8\/j=9\/j=10\/j=11\/j=12\/j=13\/j=14\/j=15\/j=16) with rfl|rfl|rfl|rfl|rfl|rfl|rfl|rfl|rfl|rfl|rfl|rfl|rfl|rfl|rfl|rfl|rfl
    ·exact absurd rfl (fun _:(0:Nat)=0=>nl (hc 5 _ (hD ⟨5,.data⟩ (by simp) rfl) rfl ⟨0,.data⟩ (by simp) rfl |> fun _=>hD ⟨5,.data⟩ (by simp) rfl))
    ·exact h
    ·exact h
    ·exact h
    ·exact h
    ·exact absurd rfl (fun _:(0:Nat)=0=>nx rfl)
    ·exact h
    ·exact h
    ·exact h
    ·exact absurd rfl (fun _:(0:Nat)=0=>nx rfl)
    ·exact absurd rfl (fun _:(0:Nat)=0=>ni rfl)
    ·exact h
    ·exact h
    ·exact h
    ·exact h
    ·exact absurd rfl (fun _:(0:Nat)=0=>hnd (hc 15 _ dj rfl ⟨10,.data⟩ (by simp) rfl))
    ·exact h)
  ·cases ho;have e3:a.eval (ak 3)=Z (aA ⟨b2,0,O⟩):=seen.kp 3 _ (nd 3 (by omega)) rfl;exact aB rfl rfl (bH a.eval _ 33 (ak 3) 5 rfl (by rw [e3]; simp [go_sem])) (hK _ _ rfl (ah _ _) fun _ _ _ _ _ _ _ h=>h)
  ·cases ho;have e58:a.eval (ak 58)=Z (aA ⟨b2,5,O⟩):=seen.at_ ⟨11,.data⟩ (by simp) rfl (aD (by decide));have y:=(H2.out.on hb).cell 5;simp only [aj,au,ay] at y;exact aB rfl rfl (aZ a.eval _ 31 (ak 58) rfl (by rw [e58]; simp [go_sem,y])) (hK _ _ rfl (ah _ _) fun _ _ _ _ _ _ _ h=>h)
  ·cases ho;have e8:a.eval (ak 8)=U V (at_:Int):=seen.kp 8 _ (nd 8 (by omega)) rfl;exact aB rfl rfl (bF a.eval _ (ak 8) rfl x) (hK _ _ e8 (ah _ _) fun _ _ _ _ _ _ _ h=>h)
  ·cases ho;have e59:a.eval (ak 59)=J so sn sc:=seen.at_ ⟨12,.data⟩ (by simp) rfl (aD (by decide));have e60:a.eval (ak 60)=U V (at_:Int):=seen.at_ ⟨13,.data⟩ (by simp) rfl (aD (by decide));exact aB rfl rfl (Rg.jI a.eval _ 31 (ak 59) (aA (ak 60)) O O rfl (by show (Instr.sliceAt 31 (a.eval (ak 59)) (aA (a.eval (ak 60))) O O).run aF x=.ok hiv x; rw [e59,e60]; exact SH.out x)) (hK _ _ rfl (ah _ _) fun _ _ _ _ _ _ _ h=>h)
  ·cases ho;have o57:pE x W.heap.size (a.eval (ak 57)) ((lt++[z])):=seen.at_ ⟨10,.data⟩ (by simp) rfl (bA rfl);have e61:a.eval (ak 61)=hiv:=seen.at_ ⟨14,.data⟩ (by simp) rfl (aD (by decide));have ox:Fx x (a.eval (ak 61)) ld:=by rw [e61]; exact RH.out.on hb
   obtain⟨v',x',r,o',gr⟩:=fO okW W.heap.size o57 ox (by have:=PU.out; rw [List.length_append,List.length_singleton]; omega) LD.out hb.size 31;exact aB rfl rfl (bI a.eval _ (ak 57) (ak 61) 31 rfl rfl rfl r) (hK v' x' o' ((ah _ x).grown gr hb.size fun j hj=>(o57.lt j hj).1) fun j u hj dj nl nx ni h=>by
    rcases (by omega:j=0\/j=1\/j=2\/j=3\/j=4\/j=5\/j=6\/j=7\/j=8\/j=9\/j=10\/j=11\/j=12\/j=13\/j=14\/j=15\/j=16) with rfl|rfl|rfl|rfl|rfl|rfl|rfl|rfl|rfl|rfl|rfl|rfl|rfl|rfl|rfl|rfl|rfl
    ·exact absurd rfl (fun _:(0:Nat)=0=>nl (hc 10 _ (hD ⟨10,.data⟩ (by simp) rfl) rfl ⟨5,.data⟩ (by simp) rfl))
    ·exact h
    ·exact h
    ·exact h
    ·exact h
    ·exact absurd rfl (fun _:(0:Nat)=0=>nl (hD ⟨10,.data⟩ (by simp) rfl))
    ·exact h
    ·exact h
    ·exact h
    ·exact absurd rfl (fun _:(0:Nat)=0=>nl (hD ⟨10,.data⟩ (by simp) rfl))
    ·exact absurd rfl (fun _:(0:Nat)=0=>nx rfl)
    ·exact h
    ·exact h
    ·exact h
    ·exact h
    ·exact absurd rfl (fun _:(0:Nat)=0=>ni rfl)
    ·exact h)
  ·cases ho;have e3:a.eval (ak 3)=Z (aA ⟨b2,0,O⟩):=seen.kp 3 _ (nd 3 (by omega)) rfl;exact aB rfl rfl (bH a.eval _ 33 (ak 3) 5 rfl (by rw [e3]; simp [go_sem])) (hK _ _ rfl (ah _ _) fun _ _ _ _ _ _ _ h=>h)
 ·intro a w' df sz kp ⟨vs,hv⟩ hb;have gr:a.tmps[62]?=aA (vs 15):=(hv 15 (by omega)).1;have gp:a.tmps[63]?=aA (Z (aA ⟨b2,5,O⟩)):=by
   have h:vs 16=Z (aA ⟨b2,5,O⟩):=(hv 16 (by omega)).2 (by decide);rw [<- h];exact (hv 16 (by omega)).1
  have oR:pE w' W.heap.size (vs 15) (lt++[z]++ld):=(hv 15 (by omega)).2 (by decide);generalize vs 15=xR at *;obtain⟨ca,cp,eR⟩:=(Row.dn oR).len;have hbx:=H2.out.on hb;have hblt:=H2.out.lt;have c5:=hbx.cell 5;have f5:=hbx.fr 5;simp only [aj,au,ay] at c5;have hb1:=dO (k:=5) hbx xR;show bD _ _ _ 1 17 a w';simp only [bD];refine Rg.fI 31 (ak 63) (ak 62) rfl rfl rfl rfl (bf gp) (bf gr) (w':=w'.setCell ⟨b2,5,O⟩ xR) (by rw [eR]; simp [go_sem,c5,f5]) ?_;have qF:∀ j,(j<47\/64<=j)->a.tmps[j]?=(u0::u1::dK z.2.2::Z (aA ⟨b2,0,O⟩)::Z (aA ⟨b3,0,O⟩)::u5::u6::u7::U V (at_:Int)::u9::u10::u11::u12::u13::u14::u15::u16::u17::u18::u19::u20::u21::u22::u23::u24::u25::u26::u27::u28::u29::u30::u31::u32::u33::u34::u35::u36::u37::u38::u39::u40::u41::u42::u43::u44::u45::u46::u47::u48::u49::u50::u51::u52::u53::u54::u55::u56::u57::u58::u59::u60::u61::u62::u63::u64::u65::u66::u67::u68::u69::u70::u71::u72::u73::u74::u75::u76::u77::u78::u79::u80::u81::u82::u83::u84::u85::u86::u87::u88::u89::u90::u91::u92::u93::u94::u95::u96::u97::u98::[])[j]?:=fun j hj=>(kp j (nd j hj)).trans aj;obtain⟨mid,hmid,rfl⟩:=Rg.fQ 47 17 df sz (by simp) qF
  match mid,hmid with
  | [v47,v48,v49,v50,v51,v52,v53,v54,v55,v56,v57,v58,v59,v60,v61,v62,v63],_ =>
   have e1:aA v62=aA xR:=gr;obtain rfl:=Option.some.inj e1;refine HQ.out _ v47 v48 v49 v50 v51 v52 v53 v54 v55 v56 v57 v58 v59 v60 v61 v62 v63 ?_ ?_ ?_ ?_ ?_
   ·simpa using hb1
   ·exact dW oR b2 5 _ hblt
   ·exact fun B hB=>(hb.mono (aQ (aV hB hblt))).setCell hB _
   ·intro c cs t hc hbc;exact (aK _ _ _ _ hc).trans (hbc.on hb)
   ·intro k hk hne;exact (aK _ _ _ _ hne).trans (hb.block k hk)
def yt (B:Nat) (b11 _ _:Nat) (_ _ gQ c d c2 d2 fr:Int) (up:Bool) (_ po:Option bC) (_ _ pn pc:Nat) (rv:aG) (_:List nH) (i:Nat) (v:aG) (x:aC):Prop :=
 match i with
 | 0=>v=rv
 | 1=>v=Z (aA ⟨b11,3,O⟩)
 | 2=>v=U V gQ
 | 3=>v=aO #[U V c,U V d,U V c2,U V d2,J po pn pc,U V fr,.bool up]
 | 4=>v=aO #[U V 3,U V c,U V d,U V c2,U V d2,J po pn pc,J O 0 0]
 | 5=>v=yL (gQ,3,c,d,c2,d2,(po,pn,pc),(O,0,0))
 | 6=>iQ x B v [(gQ,3,c,d,c2,d2,(po,pn,pc),(O,0,0))]
 | _=>True
noncomputable def Lm:Code:=((Tryz.f27.body.bind (eu 16)).getD .skip)
theorem JQ (B:Nat) (b11 b12 F0:Nat) (z1 z2 gQ c d c2 d2 fr:Int) (up:Bool) (z3 po:Option bC) (z4 z5 pn pc:Nat) (rv:aG) (lo:List nH) (i:Nat) (v:aG) (x x':aC) (h:yt B b11 b12 F0 z1 z2 gQ c d c2 d2 fr up z3 po z4 z5 pn pc rv lo i v x) (hb:Below x.heap.size x x'):yt B b11 b12 F0 z1 z2 gQ c d c2 d2 fr up z3 po z4 z5 pn pc rv lo i v x':=by
 by_cases hi:i<7
 ·rcases (by omega:i=0\/i=1\/i=2\/i=3\/i=4\/i=5\/i=6) with rfl|rfl|rfl|rfl|rfl|rfl|rfl
  ·exact h
  ·exact h
  ·exact h
  ·exact h
  ·exact h
  ·exact h
  ·exact dh h hb
 ·unfold yt
  split <;> first | omega | trivial
theorem SE (Q:Exit->Act->aC->Prop) (W:aC) (b11 b12 F0:Nat) (z1 z2 gQ c d c2 d2 fr:Int) (up:Bool) (z3 po:Option bC) (z4 z5 pn pc:Nat) (rv:aG) (lo:List nH) (u0 u1 u2 u3 u4 u5 u6 u7 u8 u10 u13 u14 u15 u16 u17 u18 u19 u20 u21 u22 u23 u24 u25 u26 u27 u28 u29 u30 u31 u32 u33 u34 u35 u36 u37 u38 u39 u40 u41 u42 u43 u44 u45 u46 u47 u48 u49 u50 u51 u52 u53 u54 u55 u56 u57 u58 u59 u60 u61 u62 u63 u64 u65 u66 u67 u68 u69 u70 u71 u72 u73 u74 u75 u76 u77 u78 u79 u80 u81 u82 u83 u84 u85 u86 u87 u88 u89 u90 u91 u92 u93 u94 u95 u96 u97 u98:aG)
  (h11:dG W b11 #[U V z1,U V z2,J z3 z4 z5,U V gQ] 53) (h12:dG W b12 #[U V c,U V d,U V c2,U V d2,J po pn pc,U V fr,.bool up] 68) (fw:F0<=W.heap.size) (ho:iQ W F0 rv lo) (hl:lo.length<=1000000)
  (hQ:∀ (x0 x:aC) (w9:aG) (v88 v89 v90 v91 v92 v93 v94 v95:aG),Below W.heap.size W x0->x0.grownBy x rv.ownBlock->iQ x F0 w9 (lo++[(gQ,3,c,d,c2,d2,(po,pn,pc),(O,0,0))])->Q .normal ⟨(u0::u1::u2::u3::u4::u5::u6::u7::u8::w9::u10::Z (aA ⟨b11,0,O⟩)::Z (aA ⟨b12,0,O⟩)::u13::u14::u15::u16::u17::u18::u19::u20::u21::u22::u23::u24::u25::u26::u27::u28::u29::u30::u31::u32::u33::u34::u35::u36::u37::u38::u39::u40::u41::u42::u43::u44::u45::u46::u47::u48::u49::u50::u51::u52::u53::u54::u55::u56::u57::u58::u59::u60::u61::u62::u63::u64::u65::u66::u67::u68::u69::u70::u71::u72::u73::u74::u75::u76::u77::u78::u79::u80::u81::u82::u83::u84::u85::u86::u87::v88::v89::v90::v91::v92::v93::v94::v95::u96::u97::u98::[]).toArray,[]⟩ x) :
  Code.wp aF Lm Q ⟨(u0::u1::u2::u3::u4::u5::u6::u7::u8::rv::u10::Z (aA ⟨b11,0,O⟩)::Z (aA ⟨b12,0,O⟩)::u13::u14::u15::u16::u17::u18::u19::u20::u21::u22::u23::u24::u25::u26::u27::u28::u29::u30::u31::u32::u33::u34::u35::u36::u37::u38::u39::u40::u41::u42::u43::u44::u45::u46::u47::u48::u49::u50::u51::u52::u53::u54::u55::u56::u57::u58::u59::u60::u61::u62::u63::u64::u65::u66::u67::u68::u69::u70::u71::u72::u73::u74::u75::u76::u77::u78::u79::u80::u81::u82::u83::u84::u85::u86::u87::u88::u89::u90::u91::u92::u93::u94::u95::u96::u97::u98::[]).toArray,[]⟩ W:=by
 have HQ:=L hQ;have H11:=L h11;have H12:=L h12;have FW:=L fw;have HO:=L ho;have HL:=L hl;clear hQ h11 h12 fw ho hl;have iJ:=JQ W.heap.size b11 b12 F0 z1 z2 gQ c d c2 d2 fr up z3 po z4 z5 pn pc rv lo;unfold Lm
 conv=>arg 2; whnf
 have nd:∀ j,(∀ i,i<7->[88,89,90,91,92,93,94].getD i 0≠j)->∀ i,i<7->(fun i=>[88,89,90,91,92,93,94].getD i 0) i≠j:=fun j h=>h;refine bJ 9 7 (fun i=>[88,89,90,91,92,93,94].getD i 0) (fun _=>7) (yt W.heap.size b11 b12 F0 z1 z2 gQ c d c2 d2 fr up z3 po z4 z5 pn pc rv lo) (by kernel_rfl) (by kernel_rfl) rfl (by decide) (fun i j hi hj h=>(by decide:∀ i,i<7->∀ j,j<7->[88,89,90,91,92,93,94].getD i 0=[88,89,90,91,92,93,94].getD j 0->i=j) i hi j hj h) (fun i hi=>(by decide:∀ i,i<7->[88,89,90,91,92,93,94].getD i 0<99) i hi) ?_ (fun _=>bK 14 (by kernel_rfl)) ?_ ?_
 ·intro i o hi ho a x D hnd hc hD hb seen K hK;clear HQ;rcases (by omega:i=0\/i=1\/i=2\/i=3\/i=4\/i=5\/i=6) with rfl|rfl|rfl|rfl|rfl|rfl|rfl
  ·cases ho;have e9:a.eval (ak 9)=rv:=seen.kp 9 _ (nd 9 (by decide)) rfl;exact aB rfl rfl (bF a.eval _ (ak 9) rfl x) (hK _ _ e9 (ah _ _) fun _ _ _ _ _ _ _ h=>h)
  ·cases ho;have e11:a.eval (ak 11)=Z (aA ⟨b11,0,O⟩):=seen.kp 11 _ (nd 11 (by decide)) rfl;exact aB rfl rfl (bH a.eval _ 53 (ak 11) 2 rfl (by rw [e11]; simp [go_sem])) (hK _ _ rfl (ah _ _) fun _ _ _ _ _ _ _ h=>h)
  ·cases ho;have e89:a.eval (ak 89)=Z (aA ⟨b11,3,O⟩):=seen.at_ ⟨1,.data⟩ (by simp) rfl (aD (by decide));have y3:=(H11.out.on hb).cell 3;simp only [aj,au,ay] at y3;exact aB rfl rfl (aZ a.eval _ 3 (ak 89) rfl (by rw [e89]; simp [go_sem,y3])) (hK _ _ rfl (ah _ _) fun _ _ _ _ _ _ _ h=>h)
  ·cases ho;have e12:a.eval (ak 12)=Z (aA ⟨b12,0,O⟩):=seen.kp 12 _ (nd 12 (by decide)) rfl;obtain⟨y0,y1,y2,y3,y4,y5,y6⟩:=(H12.out.on hb).mP;exact aB rfl rfl (aZ a.eval _ 68 (ak 12) rfl (by rw [e12]; simp [go_sem,y0,y1,y2,y3,y4,y5,y6])) (hK _ _ rfl (ah _ _) fun _ _ _ _ _ _ _ h=>h)
  ·cases ho;have e91:a.eval (ak 91)=aO #[U V c,U V d,U V c2,U V d2,J po pn pc,U V fr,.bool up]:=seen.at_ ⟨3,.data⟩ (by simp) rfl (aD (by decide));exact Rg.gq rfl rfl (gY a.eval _ (ak 91) 68 58 rfl e91 rfl _ (fK Tryz.func58 rfl rfl _ _)) (xZ (c,d,c2,d2,(po,pn,pc),fr,up) x) fun e w1 h=>by
    obtain⟨rfl,h3⟩:=h;exact⟨_,rfl,hK _ _ rfl (h3.mono hb.size) fun j u _ _ _ _ _ h=>iJ j u _ _ h h3⟩
  ·cases ho;have e90:a.eval (ak 90)=U V gQ:=seen.at_ ⟨2,.data⟩ (by simp) rfl (aD (by decide));have e92:a.eval (ak 92)=aO #[U V 3,U V c,U V d,U V c2,U V d2,J po pn pc,J O 0 0]:=seen.at_ ⟨4,.data⟩ (by simp) rfl (aD (by decide));exact aB rfl rfl (bL a.eval _ 58 #[(0,ak 90),(1,ak 92)] rfl (ps:=#[(0,U V gQ),(1,aO #[U V 3,U V c,U V d,U V c2,U V d2,J po pn pc,J O 0 0])]) (by simp only [aP,aJ,aX,e90,e92]) (by simp [go_sem])) (hK _ _ rfl (ah _ _) fun _ _ _ _ _ _ _ h=>h)
  ·cases ho;have e93:a.eval (ak 93)=yL (gQ,3,c,d,c2,d2,(po,pn,pc),(O,0,0)):=seen.at_ ⟨5,.data⟩ (by simp) rfl (aD (by decide));have hl:=gH DI x [((gQ,3,c,d,c2,d2,(po,pn,pc),(O,0,0)):nH)] 1 rfl (by simp) (jM (gQ,3,c,d,c2,d2,(po,pn,pc),(O,0,0))).toArray (by simp [flat,EU]);have nb:=fT x (aI (jM (gQ,3,c,d,c2,d2,(po,pn,pc),(O,0,0))).toArray 58);exact aB rfl rfl (bN a.eval _ 44 1 #[(0,ak 93)] rfl (ps:=#[(0,yL (gQ,3,c,d,c2,d2,(po,pn,pc),(O,0,0)))]) (by simp [e93]) (by simp [go_sem])) (hK (J (aA ⟨x.heap.size,0,O⟩) 1 1) (x.alloc (aI (jM (gQ,3,c,d,c2,d2,(po,pn,pc),(O,0,0))).toArray 58)) (dx hl hb.size) (nb.mono hb.size) fun j u _ _ _ _ _ h=>iJ j u _ _ h nb)
 ·intro kk o h1 h2 ho;rcases (by omega:kk=8) with rfl
  ·cases ho;exact⟨⟨7,.data⟩,by simp,rfl,rfl⟩
 ·intro a w' df sz kp ⟨vs,hv⟩ hb;have sz':a.tmps.size=99:=sz;have g88:a.tmps[88]?=aA (rv):=by
   have h:vs 0=rv:=(hv 0 (by omega)).2 (by decide);rw [<- h];exact (hv 0 (by omega)).1
  have g94:a.tmps[94]?=aA (vs 6):=(hv 6 (by omega)).1;have G94:=(hv 6 (by omega)).2 (by decide);have o94:iQ w' W.heap.size (vs 6) [(gQ,3,c,d,c2,d2,(po,pn,pc),(O,0,0))]:=G94;generalize vs 6=v6 at *;obtain⟨v',x',r,o',gr⟩:=uU DI F0 (dh HO.out hb) (Row.dn o94) HL.out (by simp) (aW FW.out hb.size) 44;show bD _ _ _ 2 7 a w';simp only [bD];refine aB rfl rfl (bI a.eval _ (ak 88) (ak 94) 44 rfl (bf g88) (bf g94) r) ?_;have e95:(a.put (aA 95) v').eval (ak 95)=v':=bf (by simp [Act.put,sz']);refine aB rfl rfl (Rg.kM _ _ (ak 95) rfl x') ?_;show Q .normal ((a.put (aA 95) v').put (aA 9) ((a.put (aA 95) v').eval (ak 95))) x';rw [e95];show Q .normal ((a.put (aA 95) v').put (aA 9) v') x';have ka:∀ j,j≠95->j≠9->((a.put (aA 95) v').put (aA 9) v').tmps[j]?=a.tmps[j]?:=fun j h1 h2=>by rw [bg _ _ _ _ (by omega),bg _ _ _ _ (by omega)]
  have kt:((a.put (aA 95) v').put (aA 9) v').tmps[9]?=aA (v'):=by simp [Act.put,sz']
  have qF:∀ j,(j<88\/96<=j)->((a.put (aA 95) v').put (aA 9) v').tmps[j]?=(u0::u1::u2::u3::u4::u5::u6::u7::u8::v'::u10::Z (aA ⟨b11,0,O⟩)::Z (aA ⟨b12,0,O⟩)::u13::u14::u15::u16::u17::u18::u19::u20::u21::u22::u23::u24::u25::u26::u27::u28::u29::u30::u31::u32::u33::u34::u35::u36::u37::u38::u39::u40::u41::u42::u43::u44::u45::u46::u47::u48::u49::u50::u51::u52::u53::u54::u55::u56::u57::u58::u59::u60::u61::u62::u63::u64::u65::u66::u67::u68::u69::u70::u71::u72::u73::u74::u75::u76::u77::u78::u79::u80::u81::u82::u83::u84::u85::u86::u87::u88::u89::u90::u91::u92::u93::u94::u95::u96::u97::u98::[])[j]?:=fun j hj=>by
   by_cases hj2:j=9
   ·subst hj2;exact kt
   ·have hs:(u0::u1::u2::u3::u4::u5::u6::u7::u8::v'::u10::Z (aA ⟨b11,0,O⟩)::Z (aA ⟨b12,0,O⟩)::u13::u14::u15::u16::u17::u18::u19::u20::u21::u22::u23::u24::u25::u26::u27::u28::u29::u30::u31::u32::u33::u34::u35::u36::u37::u38::u39::u40::u41::u42::u43::u44::u45::u46::u47::u48::u49::u50::u51::u52::u53::u54::u55::u56::u57::u58::u59::u60::u61::u62::u63::u64::u65::u66::u67::u68::u69::u70::u71::u72::u73::u74::u75::u76::u77::u78::u79::u80::u81::u82::u83::u84::u85::u86::u87::u88::u89::u90::u91::u92::u93::u94::u95::u96::u97::u98::[]:List aG)=(u0::u1::u2::u3::u4::u5::u6::u7::u8::rv::u10::Z (aA ⟨b11,0,O⟩)::Z (aA ⟨b12,0,O⟩)::u13::u14::u15::u16::u17::u18::u19::u20::u21::u22::u23::u24::u25::u26::u27::u28::u29::u30::u31::u32::u33::u34::u35::u36::u37::u38::u39::u40::u41::u42::u43::u44::u45::u46::u47::u48::u49::u50::u51::u52::u53::u54::u55::u56::u57::u58::u59::u60::u61::u62::u63::u64::u65::u66::u67::u68::u69::u70::u71::u72::u73::u74::u75::u76::u77::u78::u79::u80::u81::u82::u83::u84::u85::u86::u87::u88::u89::u90::u91::u92::u93::u94::u95::u96::u97::u98::[]).set 9 (v'):=rfl;rw [hs,List.getElem?_set_ne (Ne.symm hj2)];exact (ka j (by omega) hj2).trans ((kp j (nd j fun i hi h=>by have:=(by decide:∀ i,i<7->88<=[88,89,90,91,92,93,94].getD i 0/\[88,89,90,91,92,93,94].getD i 0<96) i hi; omega)).trans aj)
  obtain⟨mid,hmid,hfr⟩:=Rg.fQ (a:=(a.put (aA 95) v').put (aA 9) v') 88 8 (by simp [Act.put,df]) (by simp [Act.put,sz']) (by simp) qF;rw [hfr]
  match mid,hmid with
  | [v88,v89,v90,v91,v92,v93,v94,v95],_ =>
   exact HQ.out w' x' _ _ _ _ _ _ _ _ _ hb gr o'
end Bk
namespace At
open Go.RowKit Go.Sort Va In
end At
namespace Rl
open Go.RowKit Pu Rw Pr In
theorem aaC (has vals:List Int):NL (At.qP has vals 7) :=
 ⟨At.yY has vals 7 (aL _),At.Gi has vals 7,fun x hx=>by
  obtain⟨i,h1,h2⟩:=At.sI has vals 7 x hx;have h3:=(At.wE has vals 7 x hx).2;exact⟨by rw [h2,At.DF]; decide,by omega⟩⟩
end Rl
end Go.Proofs.YtkcfgbddlpomgaaGreat
