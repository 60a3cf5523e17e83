/-
  Learn of broadsidere. Conditions as told.
-/
import Derived.Test.YtghlpefopidlaaaGreatLQ010
import Derived.Test.YtghlpefopidlaaaGreatLQ011
set_option maxRecDepth 100000
set_option maxHeartbeats 64000000
open _root_.Bool renaming and_eq_true->U,false->Y,true->aI
open _root_.Go renaming World->Z,Value->aC
open Go.IntKind renaming i64->L
open Go.Lib renaming hid->J
open Go.Obj renaming cells->O
open Go.Value renaming slice->D,int->K,bool->V,agg->aJ
open _root_.List renaming setIfInBounds_toArray->X,getElem?_eq_getElem->aj,filter_cons_of_neg->ak,filter_cons_of_pos->au,getElem?_cons_zero->ay,getElem?_cons_succ->aA,getElem?_toArray->aB,map_cons->aD,set_cons_zero->aF,set_cons_succ->aG
open _root_.Nat renaming le_refl->ah
open _root_.Option renaming none->Q,some->aH
namespace Go.Proofs.YtghlpefopidlaaaGreat.Bk
open Go.RowKit Go.Sort Rw YtghlpefopidlaaaGreat.Nm Pr
def fM {α:Type} (l:List α) (k:Nat) (x:α):List α:=l.take k++[x]++l.drop k
def fQ (b:Br) (a:Ad):Br×Bool:=if a.id∈b.seen then (b,Y) else ({ b with seen:=fM b.seen (fC b.seen a.id) a.id,dO:=fM b.dO (fC (b.dO.map Ad.id) a.id) a },aI)
abbrev gV (W:Z) (b:Nat) (a0 a1 a2 a3 a4 a5:aC):Z:=(((((W.setCell ⟨b,0,Q⟩ a0).setCell ⟨b,1,Q⟩ a1).setCell ⟨b,2,Q⟩ a2).setCell ⟨b,3,Q⟩ a3).setCell ⟨b,4,Q⟩ a4).setCell ⟨b,5,Q⟩ a5
theorem dL {W:Z} {b:Nat} {t:TypeId} {z0 z1 z2 z3 z4 z5:aC} (h:dK W b #[z0,z1,z2,z3,z4,z5] t) (a0 a1 a2 a3 a4 a5:aC):dK (gV W b a0 a1 a2 a3 a4 a5) b #[a0,a1,a2,a3,a4,a5] t:=by
 have h2:=eu (k:=5) (eu (k:=4) (eu (k:=3) (eu (k:=2) (eu (k:=1) (eu (k:=0) h a0) a1) a2) a3) a4) a5;simp only [X,aF,aG] at h2;exact h2
theorem dH {w W:Z} {B b:Nat} (h:Below B w W) (hb:B<=b) (a0 a1 a2 a3 a4 a5:aC):Below B w (gV W b a0 a1 a2 a3 a4 a5) :=
 (((((h.setCell hb _).setCell hb _).setCell hb _).setCell hb _).setCell hb _).setCell hb _
theorem dN (W:Z) (b:Nat) (a0 a1 a2 a3 a4 a5:aC) (j:Nat) (hj:j≠b):(gV W b a0 a1 a2 a3 a4 a5).heap[j]?=W.heap[j]?:=by
 have h:∀ (W:Z) (k:Nat) (x:aC),(W.setCell ⟨b,k,Q⟩ x).heap[j]?=W.heap[j]?:=fun W k x=>RowKit.Below.heap_setCell W _ x _ hj;unfold gV;rw [h,h,h,h,h,h]
theorem gy {α:Type} {E:Ek α} {W:Z} {B:Nat} {v:aC} {l:List α} (h:Own E W B v l) (b:Nat) (hb:b<B) (a0 a1 a2 a3 a4 a5:aC):Own E (gV W b a0 a1 a2 a3 a4 a5) B v l :=
 eZ (eZ (eZ (eZ (eZ (eZ h b 0 a0 hb) b 1 a1 hb) b 2 a2 hb) b 3 a3 hb) b 4 a4 hb) b 5 a5 hb
theorem gT (w:Z) (c d e:Array aC) (r s t:TypeId):Below w.heap.size w (((w.alloc (O c r)).alloc (O d s)).alloc (O e t))/\dK (((w.alloc (O c r)).alloc (O d s)).alloc (O e t)) w.heap.size c r/\dK (((w.alloc (O c r)).alloc (O d s)).alloc (O e t)) (w.heap.size+1) d s/\dK (((w.alloc (O c r)).alloc (O d s)).alloc (O e t)) (w.heap.size+1+1) e t:=by
 refine⟨(((Below.refl _ _).alloc (ah _) _).alloc (by simp) _).alloc (by simp; omega) _,((dQ w c r).more _).more _,?_,?_⟩
 ·have h:=(dQ (w.alloc (O c r)) d s).more (O e t);simpa using h
 ·have h:=dQ ((w.alloc (O c r)).alloc (O d s)) e t;simpa using h
theorem WO {W:Z} {b:Nat} {c d:Int} {p q:aC} (h:dK W b #[K L c,K L d,p,q] 36):∀ x,Below W.heap.size W x->∀ j u,(kR (c,d))[j]?=aH u->x.cell? ((⟨b,0,Q⟩:Addr).add j)=aH u:=by
 intro x hb j u hj;rw [lY,(h.on hb).cell]
 match j with
 | 0=>exact hj
 | 1=>exact hj
 | j+2=>simp at hj
theorem TL {W:Z} {b:Nat} {c d q:Int} {p:Sl} (h:dK W b #[K L c,K L d,dX p,K L q] 36):∀ x,Below W.heap.size W x->∀ j u,(cellsD (c,d,p,q))[j]?=aH u->x.cell? ((⟨b,0,Q⟩:Addr).add j)=aH u:=by
 intro x hb j u hj;rw [lY,(h.on hb).cell]
 match j with
 | 0=>exact hj
 | 1=>exact hj
 | 2=>exact hj
 | 3=>exact hj
 | j+4=>simp at hj
theorem Cc {W:Z} {l:List kY} {m:List Ad} (h:eY (uU W) l m):(l.map fun y=>(y.1,y.2.1))=m.map Ad.id:=by
 induction h with
 | nil=>rfl
 | cons x t ih=>rw [aD,aD,ih,x.1]
theorem nG (l:List Id) (x:Id):fC l x<=l.length:=by
 unfold fC;exact (List.takeWhile_sublist _).length_le
theorem WQ {α:Type} {E:Ek α} {W:Z} {B:Nat} {v:aC} {l:List α} {b:Nat} (h:Own E W B v l) (hb:b<B):v.ownBlock=Q\/v.ownBlock≠aH b:=by
 cases hv:v.ownBlock with
 | none=>exact Or.inl rfl
 | some j =>
  refine Or.inr fun e=>?_;injection e with e
  have:=(h.lt j hv).1;omega
theorem NV (b:Br) (nv av sv ev ov:Sl) (z:kY) (a:Ad) (w:Z) (h:jq w b nv av sv ev ov) (hz:uU w z a) (l1:b.seen.length<=900) (l2:b.dO.length<=900) :
  Calls Tryz.prog 118 #[mG b.me nv av sv ev ov,nD z] w fun e w'=>(∃ Fa NW:Sl,e=.returned (.tuple #[mG b.me nv Fa NW ev ov,V (fQ b a).2])/\jq w' (fQ b a).1 nv Fa NW ev ov)/\Below w.heap.size w w':=by
 obtain⟨no,nn,nc⟩:=nv;obtain⟨ao,an,ac⟩:=av;obtain⟨so,sn,sc⟩:=sv;obtain⟨eo,en,ec⟩:=ev;obtain⟨oo,eG,oc⟩:=ov;obtain⟨c,d,⟨po,pn,pc⟩,par⟩:=z;obtain⟨xs,hx1,hx2⟩:=h.dO;have HZ:=J hz;have IDS:=J (Cc hx2);have XL:=J (show xs.length<=900 by rw [hx2.len]; exact l2);have hs:=h.seen;have HA2:=J hx2;obtain⟨q1,q2,hq⟩:=hs.len;obtain⟨rfl,rfl,rfl⟩:so=q1/\sn=b.seen.length/\sc=q2:=by
  have:D so sn sc=D q1 b.seen.length q2:=hq;simpa using this
 obtain⟨q1,q2,hq⟩:=hx1.len;obtain⟨rfl,rfl,rfl⟩:ao=q1/\an=xs.length/\ac=q2:=by
  have:D ao an ac=D q1 xs.length q2:=hq;simpa using this
 have SN:=Tx b.me (D no nn nc) (D ao xs.length ac) (D eo en ec) (D oo eG oc) (so,b.seen.length,sc) b.seen (c,d);have HH:=J h;obtain⟨h0,h1,h2,h3⟩:=gT w #[K L b.me,D no nn nc,D ao xs.length ac,D so b.seen.length sc,D eo en ec,D oo eG oc] #[K L c,K L d,D po pn pc,K L par] #[K L 0,D Q 0 0,D Q 0 0,D Q 0 0,D Q 0 0,D Q 0 0] 30 36 30;obtain⟨n1,hn1⟩:∃ n,n=b.seen.length:=⟨_,rfl⟩;obtain⟨n2,hn2⟩:∃ n,n=xs.length:=⟨_,rfl⟩;have HD:=hx1;simp only [<- hn1,<- hn2] at h0 h1 h2 h3 hs HD HH SN ⊢;have B0:=J h0;have X2:=J h1;have X3:=J h2;have X4:=J h3;have HS:=J hs;have HD:=J HD;have N1:=J hn1;have N2:=J hn2;have L1:=J l1;have AI:=J hz.1;have hme:∃ me,me=b.me:=⟨_,rfl⟩;obtain⟨me,hme⟩:=hme;simp only [<- hme] at X2 B0 X3 X4 SN ⊢;clear h0 h1 h2 h3 hs hx1 hx2 h hz hq hn1 hn2 l1 l2 hme;go_enter Tryz.func118,Tryz.ntmps118;go_upto_region 1 with fail;generalize (((w.alloc (O #[K L me,D no nn nc,D ao n2 ac,D so n1 sc,D eo en ec,D oo eG oc] 30)).alloc (O #[K L c,K L d,D po pn pc,K L par] 36)).alloc (O #[K L 0,D Q 0 0,D Q 0 0,D Q 0 0,D Q 0 0,D Q 0 0] 30))=W at *;have SW:=J (SN W (HS.out.on B0.out));clear SN;obtain⟨x0,x1,x2,x3,x4,x5⟩:=X2.out.fD;obtain⟨y0,y1,y2,y3⟩:=X3.out.Bt;cases hsn:decide ((c,d)∈b.seen) with
 | true =>
  have LB:=J (show fQ b a=(b,Y) from if_pos (by rw [<- AI.out]; exact of_decide_eq_true hsn));rw [hsn] at SW;clear hsn;go_wp2_with fail;refine SW.out.mono ?_;rintro e1 w1 ⟨rfl,hb⟩;have B1:=J (B0.out.trans (hb.mono B0.out.size));have Bg:=X2.out.on hb;have X4a:=X4.out.on hb;clear SW x0 x1 x2 x3 x4 x5 y0 y1 y2 y3;obtain⟨x0,x1,x2,x3,x4,x5⟩:=Bg.fD;obtain⟨r0,r1,r2,r3,r4,r5⟩:=X4a.fD;obtain⟨t0,t1,t2,t3,t4,t5⟩:=X4a.kK;have zz:=X4a.lt;have FB:=J (dL X4a (K L me) (D no nn nc) (D ao n2 ac) (D so n1 sc) (D eo en ec) (D oo eG oc));have BL:=J (dH (b:=w.heap.size+1+1) B1.out (by omega) (K L me) (D no nn nc) (D ao n2 ac) (D so n1 sc) (D eo en ec) (D oo eG oc));clear hb X2 X3 X4 Bg X4a HS HD;go_wp2_with fail;obtain⟨T,a0,a3,a4,a5,a6⟩:=FB.out.fD;refine bodyPost_ret (v:=.tuple #[aJ #[K L me,D no nn nc,D ao n2 ac,D so n1 sc,D eo en ec,D oo eG oc],V Y]) (by simp [results,Tryz.results118,go_sem,T,a0,a3,a4,a5,a6]) rfl ?_;rw [LB.out];exact⟨⟨(ao,n2,ac),(so,n1,sc),rfl,HH.out.on BL.out⟩,BL.out⟩
 | false =>
  have LB:=J (show fQ b a=({ b with seen:=fM b.seen (fC b.seen a.id) a.id,dO:=fM b.dO (fC (b.dO.map Ad.id) a.id) a },aI) from if_neg (by rw [<- AI.out]; exact of_decide_eq_false hsn));rw [hsn] at SW;clear hsn;go_wp2_with fail;refine SW.out.mono ?_;rintro e1 w1 ⟨rfl,hb⟩;have B1:=J (B0.out.trans (hb.mono B0.out.size));have Y2:=J (X2.out.on hb);have Y3:=J (X3.out.on hb);have Y4:=J (X4.out.on hb);have S1:=J (HS.out.on B1.out);clear SW hb X2 X3 X4 HS x0 x1 x2 x3 x4 x5 y0 y1 y2 y3
  go_upto_block 0 with (fail)
  refine Ww _ w1 w.heap.size (w.heap.size+1) me c d _ _ _ _ _ _ so n1 sc b.seen _ _ _ _ _ _ _ _ _ _ _ _ _ _ _ _ _ _ _ _ _ _ _ _ _ _ _ _ _ _ _ _ _ _ _ _ _ _ _ _ _ _ _ _ _ _ _ _ _ _ _ _ _ _ _ _ _ _ _ _ _ _ _ _ _ _ _ _ _ _ _ _ _ _ _ _ Y2.out Y3.out S1.out N1.out (by have:=L1.out; have:=N1.out; omega) ?_;intro wr v12 v13 v14 v15 v16 v17 v18 v19 v20 v21 v22 v23 v24 v25 v26 v27 v28 hb;have B2:=J (B1.out.trans (hb.mono B1.out.size));have Z2:=J (Y2.out.on hb);have Z3:=J (Y3.out.on hb);have Z4:=J (Y4.out.on hb);have S2:=J (S1.out.on hb);clear hb B1 Y2 Y3 Y4 S1;go_upto_region 6 with fail;refine amE _ wr w.heap.size (w.heap.size+1) me _ _ _ _ so n1 sc (fC b.seen (c,d)) b.seen (c,d) _ _ _ _ _ _ _ _ _ _ _ _ _ _ _ _ _ _ _ _ _ _ _ _ _ _ _ _ _ _ _ _ _ _ _ _ _ _ _ _ _ _ _ _ _ _ _ _ _ _ _ _ _ _ _ _ _ _ _ _ _ _ _ _ _ _ _ _ _ _ _ _ _ _ _ _ Z2.out (WO Z3.out) S2.out (nG _ _) L1.out ?_;intro xw1 v29 v30 v31 v32 v33 v34 v35 v36 v37 v38 v39 v40 v41 v42 v43 v44 hbx ho hbl hoth hblk;obtain⟨sd1,sd2,hsv⟩:=(Row.dJ ho).len;obtain⟨sl,hsl⟩:∃ n,n=(b.seen.take (fC b.seen (c,d))++[(c,d)]++b.seen.drop (fC b.seen (c,d))).length:=⟨_,rfl⟩;rw [<- hsl] at hsv;subst hsv;have B3:=J (B2.out.trans (hbl _ (ah _)));have A2:=J hbx;have A3:=J (hoth _ _ _ (by omega) Z3.out);have A4:=J (hoth _ _ _ (by omega) Z4.out);have OS:=J (dM ho (show w.heap.size+3<=wr.heap.size by have:=Z4.out.lt; omega));have D3:=J (HD.out.on B3.out);clear hbx ho hbl hoth hblk hsl B2 Z2 Z3 Z4 S2 HD
  go_upto_block 2 with (fail)
  refine Wx _ xw1 w.heap.size (w.heap.size+1) me c d _ _ _ _ _ _ ao n2 ac xs _ _ _ _ _ _ _ _ _ _ _ _ _ _ _ _ _ _ _ _ _ _ _ _ _ _ _ _ _ _ _ _ _ _ _ _ _ _ _ _ _ _ _ _ _ _ _ _ _ _ _ _ _ _ _ _ _ _ _ _ _ _ _ _ _ _ _ _ _ _ _ _ _ _ _ _ A2.out A3.out D3.out N2.out (by have:=XL.out; have:=N2.out; omega) ?_;intro ws v45 v46 v47 v48 v49 v50 v51 v52 v53 v54 v55 v56 v57 v58 v59 v60 v61 v62 hb;have B4:=J (B3.out.trans (hb.mono B3.out.size));have C2:=J (A2.out.on hb);have C3:=J (A3.out.on hb);have C4:=J (A4.out.on hb);have O4:=J (dI OS.out hb);have D4:=J (D3.out.on hb);clear hb B3 A2 A3 A4 OS D3;go_upto_region 10 with fail;refine ajH _ ws w.heap.size (w.heap.size+1) me _ _ _ _ ao n2 ac (fC (xs.map fun y=>(y.1,y.2.1)) (c,d)) xs (c,d,(po,pn,pc),par) _ _ _ _ _ _ _ _ _ _ _ _ _ _ _ _ _ _ _ _ _ _ _ _ _ _ _ _ _ _ _ _ _ _ _ _ _ _ _ _ _ _ _ _ _ _ _ _ _ _ _ _ _ _ _ _ _ _ _ _ _ _ _ _ _ _ _ _ _ _ _ _ _ _ _ _ C2.out (TL (p:=(po,pn,pc)) C3.out) D4.out (by have:=nG (xs.map fun y=>(y.1,y.2.1)) (c,d); rw [List.length_map] at this; exact this) XL.out ?_;intro xw2 v63 v64 v65 v66 v67 v68 v69 v70 v71 v72 v73 v74 v75 v76 v77 hbx ho hbl hoth hblk;obtain⟨nV,nW,Ce⟩:=(Row.dJ ho).len;obtain⟨tl,htl⟩:∃ n,n=(xs.take (fC (xs.map fun y=>(y.1,y.2.1)) (c,d))++[(c,d,(po,pn,pc),par)]++xs.drop (fC (xs.map fun y=>(y.1,y.2.1)) (c,d))).length:=⟨_,rfl⟩;rw [<- htl] at Ce;subst Ce;have hb5:=hbl _ (ah w.heap.size);have B5:=J (B4.out.trans hb5);have E2:=hbx;have E4:=hoth _ _ _ (by omega) C4.out;have OD:=J (dM ho (show w.heap.size+3<=ws.heap.size by have:=C4.out.lt; omega));have OS:=J (O4.out.kept (w':=xw2) (row:=aH w.heap.size) ⟨hb5.os,hb5.tape,hb5.output,hb5.size,fun k hk hne=>hblk k hk (fun e=>hne (by rw [e]))⟩ (WQ O4.out (by omega)));clear ho hbl hoth hblk htl hb5 hbx B4 C2 C3 C4 O4 D4;obtain⟨x0,x1,x2,x3,x4,x5⟩:=E2.fD;obtain⟨r0,r1,r2,r3,r4,r5⟩:=E4.fD;obtain⟨t0,t1,t2,t3,t4,t5⟩:=E4.kK;have zz:=E4.lt;have FB:=J (dL E4 (K L me) (D no nn nc) (D nV tl nW) (D sd1 sl sd2) (D eo en ec) (D oo eG oc));have BL:=J (dH (b:=w.heap.size+1+1) B5.out (by omega) (K L me) (D no nn nc) (D nV tl nW) (D sd1 sl sd2) (D eo en ec) (D oo eG oc));have FD:=J (gy OD.out (w.heap.size+1+1) (by omega) (K L me) (D no nn nc) (D nV tl nW) (D sd1 sl sd2) (D eo en ec) (D oo eG oc));have FS:=J (gy OS.out (w.heap.size+1+1) (by omega) (K L me) (D no nn nc) (D nV tl nW) (D sd1 sl sd2) (D eo en ec) (D oo eG oc));clear OD OS E2 E4;go_wp2_with fail;obtain⟨T,a0,a3,a4,a5,a6⟩:=FB.out.fD;refine bodyPost_ret (v:=.tuple #[aJ #[K L me,D no nn nc,D nV tl nW,D sd1 sl sd2,D eo en ec,D oo eG oc],V aI]) (by simp [results,Tryz.results118,go_sem,T,a0,a3,a4,a5,a6]) rfl ?_;rw [LB.out];refine⟨⟨(nV,tl,nW),(sd1,sl,sd2),rfl,?_⟩,BL.out⟩;have hI:=HH.out.on BL.out;refine⟨hI.near,⟨_,Row.dJ FD.out,?_⟩,?_,hI.ent,hI.own⟩
  ·have hA:=HA2.out.mono fun _ _ h=>h.on BL.out;rw [<- AI.out,<- IDS.out];exact ((hA.take _).append (.cons (HZ.out.on BL.out) .nil)).append (hA.drop _)
  ·rw [<- AI.out];exact Row.dJ FS.out
def cutAt {α:Type} (l:List α) (k:Nat):List α:=l.take k++l.drop (k+1)
def iQ (b:Br) (x:Id) (f:Int):Br×Bool:=match b.dO[(fO (b.dO.map Ad.id) x).toNat]? with
 | none=>(b,Y)
 | some a=>if fO (b.dO.map Ad.id) x=-1 then (b,Y) else if a.par=f then ({ b with dO:=cutAt b.dO (fO (b.dO.map Ad.id) x).toNat,ent:=b.ent.filter fun e=>decide (e.tree≠x) },aI) else (b,Y)
theorem Qe (l:List kY) (x:Id):fO (l.map fun y=>(y.1,y.2.1)) x=-1\/∃ (k:Nat) (y:kY),fO (l.map fun y=>(y.1,y.2.1)) x=k/\l[k]?=aH y:=by
 induction l with
 | nil=>exact Or.inl rfl
 | cons a l ih =>
  rw [aD,fO];by_cases h:(a.1,a.2.1)=x
  ·rw [if_pos h];exact Or.inr ⟨0,a,rfl,rfl⟩
  ·rw [if_neg h];rcases ih with h2|⟨k,y,h2,h3⟩
   ·rw [if_pos h2];exact Or.inl rfl
   ·rw [if_neg (by omega),h2];exact Or.inr ⟨k+1,y,by omega,by simpa using h3⟩
theorem eY.fil {α β:Type} {R:α->β->Prop} (p:α->Bool) (q:β->Bool) (hpq:∀ a b,R a b->p a=q b):∀ {l m},eY R l m->eY R (l.filter p) (m.filter q)
 | _,_,.nil=>.nil
 | _,_,.cons (a:=a) (b:=b) x t=>by
  have h:=hpq a b x;cases hb:q b
  ·rw [ak (by rw [h,hb]; simp),ak (by rw [hb]; simp)];exact t.fil p q hpq
  ·rw [au (by rw [h,hb]),au (by rw [hb])];exact .cons x (t.fil p q hpq)
theorem WT (a b c d:Int) (r:Bool) (h:(!(a == c && b == d))=r) (w:Z):(binOp .neq 23 (aJ #[K L a,K L b]) (aJ #[K L c,K L d])).run Tryz.prog w=.ok (V r) w:=by
 have st:=Qb;subst h;by_cases h1:a=c <;> by_cases h2:b=d <;> simp [go_sem,Tryz.underlying23,Tryz.underlying3,st,h1,h2]
def zV (x:Id) (e:jk):Bool:=decide ((e.1,e.2.1)≠x)
theorem Cg {α:Type} (l:List α) (k:Nat) (y:α) (p:α->Bool) (h:l[k]?=aH y):(l.take (k+1)).filter p=(l.take k).filter p++(if p y then [y] else []):=by
 rw [List.take_add_one,h,List.filter_append];cases hp:p y <;> simp [hp]
theorem J8 (b:Br) (nv av sv ev ov:Sl) (x:Id) (f:Int) (w:Z) (h:jq w b nv av sv ev ov) (l2:b.dO.length<=900) (l3:b.ent.length<=900) :
  Calls Tryz.prog 161 #[mG b.me nv av sv ev ov,nC x,K L f] w fun e w'=>(∃ Fa ev':Sl,e=.returned (.tuple #[mG b.me nv Fa sv ev' ov,V (iQ b x f).2])/\jq w' (iQ b x f).1 nv Fa sv ev' ov)/\Below w.heap.size w w':=by
 obtain⟨no,nn,nc⟩:=nv;obtain⟨ao,an,ac⟩:=av;obtain⟨so,sn,sc⟩:=sv;obtain⟨eo,en,ec⟩:=ev;obtain⟨oo,eG,oc⟩:=ov;obtain⟨c,d⟩:=x;obtain⟨xs,hx1,hx2⟩:=h.dO;obtain⟨es,he1,he2⟩:=h.ent;have IDS:=J (Cc hx2);have XL:=J (show xs.length<=900 by rw [hx2.len]; exact l2);have EL:=J (show es.length<=900 by rw [he2.len]; exact l3);have HA2:=J hx2;have HE2:=J he2;obtain⟨q1,q2,hq⟩:=hx1.len;obtain⟨rfl,rfl,rfl⟩:ao=q1/\an=xs.length/\ac=q2:=by
  have:D ao an ac=D q1 xs.length q2:=hq;simpa using this
 obtain⟨q1,q2,hq⟩:=he1.len;obtain⟨rfl,rfl,rfl⟩:eo=q1/\en=es.length/\ec=q2:=by
  have:D eo en ec=D q1 es.length q2:=hq;simpa using this
 have FD:=vV b.me (D no nn nc) (D eo es.length ec) (D so sn sc) (D oo eG oc) (ao,xs.length,ac) xs (c,d);have HH:=J h;obtain⟨h0,h1,h2,h3⟩:=gT w #[K L b.me,D no nn nc,D ao xs.length ac,D so sn sc,D eo es.length ec,D oo eG oc] #[K L c,K L d] #[K L 0,D Q 0 0,D Q 0 0,D Q 0 0,D Q 0 0,D Q 0 0] 30 23 30;obtain⟨n2,hn2⟩:∃ n,n=xs.length:=⟨_,rfl⟩;obtain⟨n3,WU⟩:∃ n,n=es.length:=⟨_,rfl⟩;simp only [<- hn2,<- WU] at h0 h1 h2 h3 hx1 he1 HH FD ⊢;have B0:=J h0;have X2:=J h1;have X3:=J h2;have X5:=J h3;have HS:=J hx1;have HE:=J he1;have N2:=J hn2;have N3:=J WU;obtain⟨me,hme⟩:∃ me,me=b.me:=⟨_,rfl⟩;simp only [<- hme] at X2 B0 X3 X5 FD ⊢;clear h0 h1 h2 h3 hx1 he1 hx2 he2 h hq hn2 WU l2 l3 hme;go_enter Tryz.func161,Tryz.ntmps161;go_upto_region 1 with fail;generalize (((w.alloc (O #[K L me,D no nn nc,D ao n2 ac,D so sn sc,D eo n3 ec,D oo eG oc] 30)).alloc (O #[K L c,K L d] 23)).alloc (O #[K L 0,D Q 0 0,D Q 0 0,D Q 0 0,D Q 0 0,D Q 0 0] 30))=W at *;have SW:=J (FD W (HS.out.on B0.out));clear FD;obtain⟨x0,x1,x2,x3,x4,x5⟩:=X2.out.fD;obtain⟨y0,y1⟩:=X3.out.cs2;rcases Qe xs (c,d) with hf|⟨k,y,hf,hy⟩
 ·have LB:=J (show iQ b (c,d) f=(b,Y) by
   have hf':=hf;rw [IDS.out] at hf';unfold iQ;rw [hf']
   split
   ·rfl
   ·rw [if_pos rfl])
  rw [hf] at SW;clear hf;go_wp2_with fail;refine SW.out.mono ?_;rintro e1 w1 ⟨rfl,hb⟩;have B1:=J (B0.out.trans (hb.mono B0.out.size));have Bg:=X2.out.on hb;have uF:=X5.out.on hb;clear SW hb x0 x1 x2 x3 x4 x5 y0 y1;obtain⟨x0,x1,x2,x3,x4,x5⟩:=Bg.fD;obtain⟨r0,r1,r2,r3,r4,r5⟩:=uF.fD;obtain⟨t0,t1,t2,t3,t4,t5⟩:=uF.kK;have zz:=uF.lt;have FB:=J (dL uF (K L me) (D no nn nc) (D ao n2 ac) (D so sn sc) (D eo n3 ec) (D oo eG oc));have BL:=J (dH (b:=w.heap.size+1+1) B1.out (by omega) (K L me) (D no nn nc) (D ao n2 ac) (D so sn sc) (D eo n3 ec) (D oo eG oc));clear X2 X3 X5 Bg uF HS HE;go_wp2_with fail;obtain⟨T,a0,a3,a5,a6,a7⟩:=FB.out.fD;refine bodyPost_ret (v:=.tuple #[aJ #[K L me,D no nn nc,D ao n2 ac,D so sn sc,D eo n3 ec,D oo eG oc],V Y]) (by simp [results,Tryz.results161,go_sem,T,a0,a3,a5,a6,a7]) rfl ?_;rw [LB.out];exact⟨⟨(ao,n2,ac),(eo,n3,ec),rfl,HH.out.on BL.out⟩,BL.out⟩
 ·rw [hf] at SW;have hk:=(List.getElem?_eq_some_iff.1 hy).1;have XL2:=XL.out;have hkn:k<n2:=by rw [N2.out]; exact hk
  have HF:=J hf;have HY:=J hy;obtain⟨p,ix,px⟩:=NK HS.out rfl N2.out.symm hy;have LB:=J (show ∀ a,b.dO[k]?=aH a->iQ b (c,d) f=if a.par=f then ({ b with dO:=cutAt b.dO k,ent:=b.ent.filter fun e=>decide (e.tree≠(c,d)) },aI) else (b,Y) from fun a ha=>by
   have hf':=HF.out;rw [IDS.out] at hf';unfold iQ;rw [hf',Int.toNat_natCast,ha];simp only;rw [if_neg (by omega)])
  obtain⟨z1,z2,⟨zo,zn,zc⟩,par⟩:=y;obtain⟨a,hak⟩:∃ a,b.dO[k]?=aH a:=⟨_,aj (by rw [<- HA2.out.len]; exact hk)⟩;have hap:a.par=par:=by
   obtain⟨z,hz1,hz2⟩:=HA2.out.at k a hak;rw [HY.out] at hz1;obtain rfl:=Option.some.inj hz1;exact hz2.2.1.symm
  have LC:=LB.out a hak;rw [hap] at LC;have hik:decide ((k:Int)<0)=Y:=decide_eq_false (by omega);go_wp2_with fail;refine SW.out.mono ?_;rintro e1 w1 ⟨rfl,hb⟩;have B1:=J (B0.out.trans (hb.mono B0.out.size));have Bg:=X2.out.on hb;have X3a:=X3.out.on hb;have uF:=X5.out.on hb;have AA:=px w1 B1.out;obtain⟨p0,p1,p2,p3⟩:=AA;clear SW hb px HF LB hf hy hap hak x0 x1 x2 x3 x4 x5 y0 y1;by_cases hpf:par=f
  ·rw [if_pos hpf] at LC;have LB:=J LC;have hne:(par != f)=Y:=by simp [hpf]
   have HPF:=J hpf;have Z2:=J Bg;have Z3:=J X3a;have Z5:=J uF;obtain⟨x0,x1,x2,x3,x4,x5⟩:=Bg.fD;obtain⟨r0,r1,r2,r3,r4,r5⟩:=uF.fD;obtain⟨t0,t1,t2,t3,t4,t5⟩:=uF.kK;have zz:=uF.lt;clear LC hpf X2 X3 X5 Bg X3a uF;have S1:=J (HS.out.on B1.out);go_upto_region 4 with fail;refine amF _ w1 w.heap.size (w.heap.size+1) me _ _ _ _ ao n2 ac k xs _ _ _ _ _ _ _ _ _ _ _ _ _ _ _ _ _ _ _ _ _ _ _ _ _ _ _ _ _ _ _ _ _ _ _ _ _ _ _ _ _ _ _ _ _ _ _ _ _ _ _ _ _ _ _ _ _ Z2.out S1.out (by omega) XL.out ?_;intro xw v28 v29 v30 v31 v32 v33 v34 v35 v36 v37 v38 v39 v40 hbx ho hbl hoth hblk;obtain⟨nV,nW,Ce⟩:=(Row.dJ ho).len;obtain⟨tl,htl⟩:∃ n,n=(xs.take k++xs.drop (k+1)).length:=⟨_,rfl⟩;rw [<- htl] at Ce;subst Ce;have B2:=J (B1.out.trans (hbl _ (ah _)));have A2:=J hbx;have A3:=J (hoth _ _ _ (by omega) Z3.out);have A5:=J (hoth _ _ _ (by omega) Z5.out);have OD:=J (dM ho (show w.heap.size+3<=w1.heap.size by have:=Z5.out.lt; omega));have E3:=J (HE.out.on B2.out);have a4:=hbx.cell 4;simp only [aB,ay,aA] at a4;have W3:=J A5.out.lt;have nb:=EL.out;rw [<- N3.out] at nb;clear hbx ho hbl hoth hblk htl B1 Z2 Z3 Z5 S1 HS HE x0 x1 x2 x3 x4 x5 r0 r1 r2 r3 r4 r5 t0 t1 t2 t3 t4 t5 zz ix p0 p1 p2 p3 hne hik;go_wp2
   go_loopw [9,44] (fun v i wr=>∃ q:Nat,q<=n3/\i=K L q/\Below xw.heap.size xw wr/\jH wr xw.heap.size v ((es.take q).filter (zV (c,d)))) (fun _ i _=>n3-(intOf i).toNat)
   case atStart=>exact⟨0,Nat.zero_le _,rfl,Below.refl _ _,iO _ _⟩
   case round =>
    obtain⟨q,hq,rfl,hbe,hown⟩:=hrel;have BE:=J hbe;have OE:=J hown;clear hbe hown;by_cases hlt:q<n3
    ·obtain⟨e,hy⟩:∃ e,es[q]?=aH e:=⟨_,aj (by rw [<- N3.out]; exact hlt)⟩;obtain⟨p,ix,px⟩:=P8 E3.out rfl N3.out.symm hy;obtain⟨p0,p1,p2,p3,p4,p5,p6⟩:=px wr BE.out;have FS:=J (Cg es q e (zV (c,d)) hy);obtain⟨y1,y2,y3,y4,⟨yo,yn,yc⟩,y6,y7⟩:=e;simp only at p0 p1 p2 p3 p4 p5 p6;have NB:=J (gN wr (O #[K L y1,K L y2,K L y3,K L y4,D yo yn yc,K L y6,V y7] 67));obtain⟨x0,x1⟩:=((A3.out.on BE.out).on NB.out).cs2;have hw3:IntKind.i64.wrap ((q:Int)+1)=(q:Int)+1:=IntWalk.i64_in _ (by omega);obtain⟨r,hr⟩:∃ r,(!(y1 == c && y2 == d))=r:=⟨_,rfl⟩;have he:=WT y1 y2 c d r hr;have KN:=J (show zV (c,d) (y1,y2,y3,y4,(yo,yn,yc),y6,y7)=r by
      rw [<- hr];unfold zV;by_cases h1:y1=c <;> by_cases h2:y2=d <;> simp [h1,h2])
     clear px hy hr;cases r
     ·go_wp2
      go_roundw
      case rel=>exact⟨q+1,by omega,by go_num,BE.out.trans (NB.out.mono BE.out.size),by
       rw [FS.out,KN.out];simpa using dI OE.out NB.out⟩
      case measure=>simp [intOf]; omega
     ·have NB2:=J (gN (wr.alloc (O #[K L y1,K L y2,K L y3,K L y4,D yo yn yc,K L y6,V y7] 67)) (O #[K L y1,K L y2,K L y3,K L y4,D yo yn yc,K L y6,V y7] 67));have hlit:=jC mM (wr.alloc (O #[K L y1,K L y2,K L y3,K L y4,D yo yn yc,K L y6,V y7] 67)) [(y1,y2,y3,y4,(yo,yn,yc),y6,y7)] 1 rfl (by simp) #[K L y1,K L y2,K L y3,K L y4,D yo yn yc,K L y6,V y7] rfl;have o2:=dI (dI OE.out NB.out) NB2.out;have hB:xw.heap.size<=((wr.alloc (O #[K L y1,K L y2,K L y3,K L y4,D yo yn yc,K L y6,V y7] 67)).alloc (O #[K L y1,K L y2,K L y3,K L y4,D yo yn yc,K L y6,V y7] 67)).heap.size:=by have h1:=BE.out.size; simp; omega
      obtain⟨v',w',r',o',gr⟩:=gZ mM xw.heap.size o2 (Row.dJ hlit) (by have h1:=List.length_filter_le (zV (c,d)) (es.take q); rw [List.length_take] at h1; omega) (by simp) hB 27;have r':(Builtin.append_ #[27,27] 27 #[u9,D (aH ⟨wr.heap.size+1,0,Q⟩) 1 1]).run Tryz.prog ((wr.alloc (O #[K L y1,K L y2,K L y3,K L y4,D yo yn yc,K L y6,V y7] 67)).alloc (O #[K L y1,K L y2,K L y3,K L y4,D yo yn yc,K L y6,V y7] 67))=.ok v' w':=by
       simpa [EN] using r'
      have BG:=J ((BE.out.trans ((NB.out.trans (NB2.out.mono NB.out.size)).mono BE.out.size)).grown gr hB fun j hj=>(o2.lt j hj).1);have OG:=J o';clear hlit o2 hB o' gr OE;go_wp2_with (first | (at_builtin; refine wpList_append_run rfl _ _ 27 rfl rfl rfl r' ?_) | fail)
      go_roundw
      case rel=>exact⟨q+1,by omega,by go_num,BG.out,by
       rw [FS.out,KN.out];simpa using OG.out⟩
      case measure=>simp [intOf]; omega
    ·obtain rfl:q=n3:=by omega
     have e:es.take q=es:=List.take_of_length_le (by have:=N3.out; omega);rw [e] at OE;obtain⟨I9,Ja,hv⟩:=(Row.dJ OE.out).len;obtain⟨vl,hvl⟩:∃ n,n=(es.filter (zV (c,d))).length:=⟨_,rfl⟩;rw [<- hvl] at hv;subst hv;have G2:=A2.out.on BE.out;have c4:=G2.cell 4;have g4:=G2.fr 4;have gl:=G2.lt;simp only [aB,ay,aA] at c4;clear hvl e a4 hlt hq nb;go_upto_region 13 with fail;have Bg:=eu (k:=4) G2 (D I9 vl Ja);simp only [X,aF,aG] at Bg;have uF:dK _ _ _ _:=(RowKit.Below.heap_setCell wr ⟨w.heap.size,4,Q⟩ (D I9 vl Ja) _ (show w.heap.size+1+1≠w.heap.size by omega)).trans (A5.out.on BE.out);have OD2:=J (eZ (dI OD.out BE.out) w.heap.size 4 (D I9 vl Ja) (by omega));have TM:=J (eZ OE.out w.heap.size 4 (D I9 vl Ja) (by have:=W3.out; omega));have BQ:=J ((B2.out.trans (BE.out.mono B2.out.size)).setCell (p:=⟨w.heap.size,4,Q⟩) (ah _) (D I9 vl Ja));clear G2 c4 g4 gl OD OE B2 A2 A3 A5 E3;generalize wr.setCell ⟨w.heap.size,4,Q⟩ (D I9 vl Ja)=wq at *;obtain⟨x0,x1,x2,x3,x4,x5⟩:=Bg.fD;obtain⟨r0,r1,r2,r3,r4,r5⟩:=uF.fD;obtain⟨t0,t1,t2,t3,t4,t5⟩:=uF.kK;have zz:=uF.lt;have FB:=J (dL uF (K L me) (D no nn nc) (D nV tl nW) (D so sn sc) (D I9 vl Ja) (D oo eG oc));have BL:=J (dH (b:=w.heap.size+1+1) BQ.out (by omega) (K L me) (D no nn nc) (D nV tl nW) (D so sn sc) (D I9 vl Ja) (D oo eG oc));have FD:=J (gy OD2.out (w.heap.size+1+1) (by omega) (K L me) (D no nn nc) (D nV tl nW) (D so sn sc) (D I9 vl Ja) (D oo eG oc));have FE:=J (gy TM.out (w.heap.size+1+1) (by have:=W3.out; omega) (K L me) (D no nn nc) (D nV tl nW) (D so sn sc) (D I9 vl Ja) (D oo eG oc));clear OD2 TM BQ Bg uF;go_wp2_with fail;obtain⟨T,a0,a3,a5,a6,a7⟩:=FB.out.fD;refine bodyPost_ret (v:=.tuple #[aJ #[K L me,D no nn nc,D nV tl nW,D so sn sc,D I9 vl Ja,D oo eG oc],V aI]) (by simp [results,Tryz.results161,go_sem,T,a0,a3,a5,a6,a7]) rfl ?_;rw [LB.out];refine⟨⟨(nV,tl,nW),(I9,vl,Ja),rfl,?_⟩,BL.out⟩;have hI:=HH.out.on BL.out;refine⟨hI.near,⟨_,Row.dJ FD.out,?_⟩,hI.seen,⟨_,Row.dJ FE.out,?_⟩,hI.own⟩
     ·have hA:=HA2.out.mono fun _ _ h=>h.on BL.out;exact (hA.take _).append (hA.drop _)
     ·have hE:=HE2.out.mono fun _ _ h=>h.on BL.out;exact hE.fil _ _ fun a b h=>by unfold zV; rw [h.1]
  ·rw [if_neg hpf] at LC;have LB:=J LC;have hne:(par != f)=aI:=by simp [hpf]
   clear LC hpf;obtain⟨x0,x1,x2,x3,x4,x5⟩:=Bg.fD;obtain⟨r0,r1,r2,r3,r4,r5⟩:=uF.fD;obtain⟨t0,t1,t2,t3,t4,t5⟩:=uF.kK;have zz:=uF.lt;clear X3a;have FB:=J (dL uF (K L me) (D no nn nc) (D ao n2 ac) (D so sn sc) (D eo n3 ec) (D oo eG oc));have BL:=J (dH (b:=w.heap.size+1+1) B1.out (by omega) (K L me) (D no nn nc) (D ao n2 ac) (D so sn sc) (D eo n3 ec) (D oo eG oc));clear X2 X3 X5 Bg uF HS HE;go_wp2_with fail;obtain⟨T,a0,a3,a5,a6,a7⟩:=FB.out.fD;refine bodyPost_ret (v:=.tuple #[aJ #[K L me,D no nn nc,D ao n2 ac,D so sn sc,D eo n3 ec,D oo eG oc],V Y]) (by simp [results,Tryz.results161,go_sem,T,a0,a3,a5,a6,a7]) rfl ?_;rw [LB.out];exact⟨⟨(ao,n2,ac),(eo,n3,ec),rfl,HH.out.on BL.out⟩,BL.out⟩
structure Gl (b:Br):Prop where
 near:b.near.length<=900
 dO:b.dO.length<=900
 seen:b.seen.length<=900
 ent:b.ent.length<=900
 own:b.own.length<=900
def gI {α:Type} (eq:α->α->Bool):List α->List α->Bool
 | [],[]=>aI
 | x::l,y::m=>eq x y && gI eq l m
 | _,_=>Y
theorem qd {α:Type} {eq:α->α->Bool}:∀ l m,gI eq l m=aI->l.length=m.length
 | [],[],_=>rfl
 | x::l,y::m,h=>by
  simp only [gI,U] at h;simp [qd l m h.2]
 | [],y::m,h=>by simp [gI] at h
 | x::l,[],h=>by simp [gI] at h
theorem qg {α:Type} {eq:α->α->Bool}:∀ l m,l.length=m.length->(∀ (k:Nat) (x y:α),l[k]?=aH x->m[k]?=aH y->eq x y=aI)->gI eq l m=aI
 | [],[],_,_=>rfl
 | x::l,y::m,hl,h=>by
  simp only [gI,U];exact⟨h 0 x y rfl rfl,qg l m (by simpa using hl) (fun k a b ha hb=>h (k+1) a b (by simpa using ha) (by simpa using hb))⟩
 | [],y::m,hl,_=>by simp at hl
 | x::l,[],hl,_=>by simp at hl
theorem qh {α:Type} {eq:α->α->Bool}:∀ (l m:List α) (k:Nat) (x y:α),l[k]?=aH x->m[k]?=aH y->eq x y=Y->gI eq l m=Y
 | [],_,k,x,y,h,_,_=>by simp at h
 | _::_,[],k,x,y,_,h,_=>by simp at h
 | a::l,b::m,0,x,y,h1,h2,h3=>by
  simp at h1 h2;subst h1 h2;simp [gI,h3]
 | a::l,b::m,k+1,x,y,h1,h2,h3=>by
  simp only [gI,qh l m k x y (by simpa using h1) (by simpa using h2) h3,Bool.and_false]
theorem lK {α:Type} {eq:α->α->Bool} (he:∀ x y,eq x y=aI↔x=y):∀ l m:List α,gI eq l m=aI↔l=m
 | [],[]=>by simp [gI]
 | x::l,y::m=>by
  simp only [gI,U,he,lK he l m,List.cons.injEq]
 | [],y::m=>by simp [gI]
 | x::l,[]=>by simp [gI]
def J9 (x y:Id):Bool:=x.1 == y.1 && x.2 == y.2
theorem pV (x y:Id):J9 x y=aI↔x=y:=by
 obtain⟨a,b⟩:=x;obtain⟨c,d⟩:=y;simp [J9]
def NY (x y:En):Bool:=J9 x.tree y.tree && (J9 x.sub y.sub && (x.from_ == y.from_ && (x.up == y.up && jU x.p y.p)))
theorem Qf (x y:En):NY x y=aI↔x=y:=by
 obtain⟨a,b,c,d,e⟩:=x;obtain⟨a',b',c',d',e'⟩:=y;simp only [NY,U,pV,vW,beq_iff_eq,En.mk.injEq];constructor
 ·rintro⟨h1,h2,h3,h4,h5⟩;exact⟨h1,h2,h5,h3,h4⟩
 ·rintro⟨h1,h2,h3,h4,h5⟩;exact⟨h1,h2,h4,h5,h3⟩
end Go.Proofs.YtghlpefopidlaaaGreat.Bk
