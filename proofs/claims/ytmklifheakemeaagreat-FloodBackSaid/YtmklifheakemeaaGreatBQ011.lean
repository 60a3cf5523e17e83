/-
  Learn of broadsidere. Conditions as told.
-/
import Derived.Test.YtmklifheakemeaaGreatBQ009
import Derived.Test.YtmklifheakemeaaGreatBQ010
set_option maxRecDepth 100000
set_option maxHeartbeats 64000000
open _root_.Bool renaming and_eq_true->X,false->Y,true->aH
open _root_.Go renaming World->Z,Value->aI
open Go.Ending renaming returned->aj
open Go.IntKind renaming i64->L
open Go.Lib renaming hid->J
open Go.Obj renaming cells->O
open Go.Value renaming slice->D,int->K,bool->V,agg->aN
open _root_.List renaming getElem?_eq_getElem->Q,setIfInBounds_toArray->ah,getElem?_eq_some_iff->ak,filter_cons_of_neg->ay,filter_cons_of_pos->aA,getElem?_cons_zero->aB,getElem?_cons_succ->aC,getElem?_toArray->aG,map_cons->aJ,set_cons_zero->aK,set_cons_succ->aL
open _root_.Nat renaming le_refl->au,zero_le->aM
open _root_.Option renaming none->U,some->aD
open Option.some renaming inj->aF
namespace Go.Proofs.YtmklifheakemeaaGreat.Bk
open Go.RowKit Go.Sort Rw YtmklifheakemeaaGreat.Nm Pr
def fU {α:Type} (l:List α) (k:Nat) (x:α):List α:=l.take k++[x]++l.drop k
def eF (b:Br) (a:Ad):Br×Bool:=if a.id∈b.seen then (b,Y) else ({ b with seen:=fU b.seen (fM b.seen a.id) a.id,dQ:=fU b.dQ (fM (b.dQ.map Ad.id) a.id) a },aH)
abbrev gF (W:Z) (b:Nat) (a0 a1 a2 a3 a4 a5:aI):Z:=(((((W.setCell ⟨b,0,U⟩ a0).setCell ⟨b,1,U⟩ a1).setCell ⟨b,2,U⟩ a2).setCell ⟨b,3,U⟩ a3).setCell ⟨b,4,U⟩ a4).setCell ⟨b,5,U⟩ a5
theorem dL {W:Z} {b:Nat} {t:TypeId} {z0 z1 z2 z3 z4 z5:aI} (h:dJ W b #[z0,z1,z2,z3,z4,z5] t) (a0 a1 a2 a3 a4 a5:aI):dJ (gF W b a0 a1 a2 a3 a4 a5) b #[a0,a1,a2,a3,a4,a5] t:=by
 have h2:=dR (k:=5) (dR (k:=4) (dR (k:=3) (dR (k:=2) (dR (k:=1) (dR (k:=0) h a0) a1) a2) a3) a4) a5;simp only [ah,aK,aL] at h2;exact h2
theorem dG {w W:Z} {B b:Nat} (h:Below B w W) (hb:B<=b) (a0 a1 a2 a3 a4 a5:aI):Below B w (gF W b a0 a1 a2 a3 a4 a5) :=
 (((((h.setCell hb _).setCell hb _).setCell hb _).setCell hb _).setCell hb _).setCell hb _
theorem dK (W:Z) (b:Nat) (a0 a1 a2 a3 a4 a5:aI) (j:Nat) (hj:j≠b):(gF W b a0 a1 a2 a3 a4 a5).heap[j]?=W.heap[j]?:=by
 have h:∀ (W:Z) (k:Nat) (x:aI),(W.setCell ⟨b,k,U⟩ x).heap[j]?=W.heap[j]?:=fun W k x=>RowKit.Below.heap_setCell W _ x _ hj;unfold gF;rw [h,h,h,h,h,h]
theorem fP {α:Type} {E:Ek α} {W:Z} {B:Nat} {v:aI} {l:List α} (h:Own E W B v l) (b:Nat) (hb:b<B) (a0 a1 a2 a3 a4 a5:aI):Own E (gF W b a0 a1 a2 a3 a4 a5) B v l :=
 eO (eO (eO (eO (eO (eO h b 0 a0 hb) b 1 a1 hb) b 2 a2 hb) b 3 a3 hb) b 4 a4 hb) b 5 a5 hb
theorem gJ (w:Z) (c d e:Array aI) (r s t:TypeId):Below w.heap.size w (((w.alloc (O c r)).alloc (O d s)).alloc (O e t))/\dJ (((w.alloc (O c r)).alloc (O d s)).alloc (O e t)) w.heap.size c r/\dJ (((w.alloc (O c r)).alloc (O d s)).alloc (O e t)) (w.heap.size+1) d s/\dJ (((w.alloc (O c r)).alloc (O d s)).alloc (O e t)) (w.heap.size+1+1) e t:=by
 refine⟨(((Below.refl _ _).alloc (au _) _).alloc (by simp) _).alloc (by simp; omega) _,((dO w c r).more _).more _,?_,?_⟩
 ·have h:=(dO (w.alloc (O c r)) d s).more (O e t);simpa using h
 ·have h:=dO ((w.alloc (O c r)).alloc (O d s)) e t;simpa using h
theorem Sg {W:Z} {b:Nat} {c d:Int} {p q:aI} (h:dJ W b #[K L c,K L d,p,q] 74):∀ x,Below W.heap.size W x->∀ j u,(jO (c,d))[j]?=aD u->x.cell? ((⟨b,0,U⟩:Addr).add j)=aD u:=by
 intro x hb j u hj;rw [nR,(h.on hb).cell]
 match j with
 | 0=>exact hj
 | 1=>exact hj
 | j+2=>simp at hj
theorem PU {W:Z} {b:Nat} {c d q:Int} {p:Sl} (h:dJ W b #[K L c,K L d,dX p,K L q] 74):∀ x,Below W.heap.size W x->∀ j u,(cellsD (c,d,p,q))[j]?=aD u->x.cell? ((⟨b,0,U⟩:Addr).add j)=aD u:=by
 intro x hb j u hj;rw [nR,(h.on hb).cell]
 match j with
 | 0=>exact hj
 | 1=>exact hj
 | 2=>exact hj
 | 3=>exact hj
 | j+4=>simp at hj
theorem zI {W:Z} {l:List jI} {m:List Ad} (h:fA (zC W) l m):(l.map fun y=>(y.1,y.2.1))=m.map Ad.id:=by
 induction h with
 | nil=>rfl
 | cons x t ih=>rw [aJ,aJ,ih,x.1]
theorem lS (l:List Id) (x:Id):fM l x<=l.length:=by
 unfold fM;exact (List.takeWhile_sublist _).length_le
theorem Si {α:Type} {E:Ek α} {W:Z} {B:Nat} {v:aI} {l:List α} {b:Nat} (h:Own E W B v l) (hb:b<B):v.ownBlock=U\/v.ownBlock≠aD b:=by
 cases hv:v.ownBlock with
 | none=>exact Or.inl rfl
 | some j =>
  refine Or.inr fun e=>?_;injection e with e
  have:=(h.lt j hv).1;omega
theorem Kj (b:Br) (nv av sv ev ov:Sl) (z:jI) (a:Ad) (w:Z) (h:iZ w b nv av sv ev ov) (hz:zC w z a) (l1:b.seen.length<=900) (l2:b.dQ.length<=900) :
  Calls Tryz.prog 45 #[oK b.me nv av sv ev ov,mY z] w fun e w'=>(∃ Cb Kk:Sl,e=aj (.tuple #[oK b.me nv Cb Kk ev ov,V (eF b a).2])/\iZ w' (eF b a).1 nv Cb Kk ev ov)/\Below w.heap.size w w':=by
 obtain⟨no,nn,nc⟩:=nv;obtain⟨ao,an,ac⟩:=av;obtain⟨so,sn,sc⟩:=sv;obtain⟨eo,en,ec⟩:=ev;obtain⟨oo,dY,oc⟩:=ov;obtain⟨c,d,⟨po,pn,pc⟩,par⟩:=z;obtain⟨xs,hx1,hx2⟩:=h.dQ;have HZ:=J hz;have IDS:=J (zI hx2);have XL:=J (show xs.length<=900 by rw [hx2.len]; exact l2);have hs:=h.seen;have HA2:=J hx2;obtain⟨q1,q2,hq⟩:=hs.len;obtain⟨rfl,rfl,rfl⟩:so=q1/\sn=b.seen.length/\sc=q2:=by
  have:D so sn sc=D q1 b.seen.length q2:=hq;simpa using this
 obtain⟨q1,q2,hq⟩:=hx1.len;obtain⟨rfl,rfl,rfl⟩:ao=q1/\an=xs.length/\ac=q2:=by
  have:D ao an ac=D q1 xs.length q2:=hq;simpa using this
 have SN:=Pt b.me (D no nn nc) (D ao xs.length ac) (D eo en ec) (D oo dY oc) (so,b.seen.length,sc) b.seen (c,d);have HH:=J h;obtain⟨h0,h1,h2,h3⟩:=gJ w #[K L b.me,D no nn nc,D ao xs.length ac,D so b.seen.length sc,D eo en ec,D oo dY oc] #[K L c,K L d,D po pn pc,K L par] #[K L 0,D U 0 0,D U 0 0,D U 0 0,D U 0 0,D U 0 0] 28 74 28;obtain⟨n1,hn1⟩:∃ n,n=b.seen.length:=⟨_,rfl⟩;obtain⟨n2,hn2⟩:∃ n,n=xs.length:=⟨_,rfl⟩;have HD:=hx1;simp only [<- hn1,<- hn2] at h0 h1 h2 h3 hs HD HH SN ⊢;have B0:=J h0;have X2:=J h1;have X3:=J h2;have X4:=J h3;have HS:=J hs;have HD:=J HD;have N1:=J hn1;have N2:=J hn2;have L1:=J l1;have AI:=J hz.1;have hme:∃ me,me=b.me:=⟨_,rfl⟩;obtain⟨me,hme⟩:=hme;simp only [<- hme] at X2 B0 X3 X4 SN ⊢;clear h0 h1 h2 h3 hs hx1 hx2 h hz hq hn1 hn2 l1 l2 hme;go_enter Tryz.func45,Tryz.ntmps45;go_upto_region 1 with fail;generalize (((w.alloc (O #[K L me,D no nn nc,D ao n2 ac,D so n1 sc,D eo en ec,D oo dY oc] 28)).alloc (O #[K L c,K L d,D po pn pc,K L par] 74)).alloc (O #[K L 0,D U 0 0,D U 0 0,D U 0 0,D U 0 0,D U 0 0] 28))=W at *;have SW:=J (SN W (HS.out.on B0.out));clear SN;obtain⟨x0,x1,x2,x3,x4,x5⟩:=X2.out.fu;obtain⟨y0,y1,y2,y3⟩:=X3.out.Cx;cases hsn:decide ((c,d)∈b.seen) with
 | true =>
  have LB:=J (show eF b a=(b,Y) from if_pos (by rw [<- AI.out]; exact of_decide_eq_true hsn));rw [hsn] at SW;clear hsn;go_wp2_with fail;refine SW.out.mono ?_;rintro e1 w1 ⟨rfl,hb⟩;have B1:=J (B0.out.trans (hb.mono B0.out.size));have y9:=X2.out.on hb;have XR:=X4.out.on hb;clear SW x0 x1 x2 x3 x4 x5 y0 y1 y2 y3;obtain⟨x0,x1,x2,x3,x4,x5⟩:=y9.fu;obtain⟨r0,r1,r2,r3,r4,r5⟩:=XR.fu;obtain⟨t0,t1,t2,t3,t4,t5⟩:=XR.kD;have zz:=XR.lt;have FB:=J (dL XR (K L me) (D no nn nc) (D ao n2 ac) (D so n1 sc) (D eo en ec) (D oo dY oc));have BL:=J (dG (b:=w.heap.size+1+1) B1.out (by omega) (K L me) (D no nn nc) (D ao n2 ac) (D so n1 sc) (D eo en ec) (D oo dY oc));clear hb X2 X3 X4 y9 XR HS HD;go_wp2_with fail;obtain⟨v0,v1,v2,v3,v4,v5⟩:=FB.out.fu;refine bodyPost_ret (v:=.tuple #[aN #[K L me,D no nn nc,D ao n2 ac,D so n1 sc,D eo en ec,D oo dY oc],V Y]) (by simp [results,Tryz.results45,go_sem,v0,v1,v2,v3,v4,v5]) rfl ?_;rw [LB.out];exact⟨⟨(ao,n2,ac),(so,n1,sc),rfl,HH.out.on BL.out⟩,BL.out⟩
 | false =>
  have LB:=J (show eF b a=({ b with seen:=fU b.seen (fM b.seen a.id) a.id,dQ:=fU b.dQ (fM (b.dQ.map Ad.id) a.id) a },aH) from if_neg (by rw [<- AI.out]; exact of_decide_eq_false hsn));rw [hsn] at SW;clear hsn;go_wp2_with fail;refine SW.out.mono ?_;rintro e1 w1 ⟨rfl,hb⟩;have B1:=J (B0.out.trans (hb.mono B0.out.size));have Y2:=J (X2.out.on hb);have Y3:=J (X3.out.on hb);have Y4:=J (X4.out.on hb);have S1:=J (HS.out.on B1.out);clear SW hb X2 X3 X4 HS x0 x1 x2 x3 x4 x5 y0 y1 y2 y3
  go_upto_block 0 with (fail)
  refine RX _ w1 w.heap.size (w.heap.size+1) me c d _ _ _ _ _ _ so n1 sc b.seen _ _ _ _ _ _ _ _ _ _ _ _ _ _ _ _ _ _ _ _ _ _ _ _ _ _ _ _ _ _ _ _ _ _ _ _ _ _ _ _ _ _ _ _ _ _ _ _ _ _ _ _ _ _ _ _ _ _ _ _ _ _ _ _ _ _ _ _ _ _ _ _ _ _ _ _ Y2.out Y3.out S1.out N1.out (by have:=L1.out; have:=N1.out; omega) ?_;intro wr v12 v13 v14 v15 v16 v17 v18 v19 v20 v21 v22 v23 v24 v25 v26 v27 v28 hb;have B2:=J (B1.out.trans (hb.mono B1.out.size));have Z2:=J (Y2.out.on hb);have Z3:=J (Y3.out.on hb);have Z4:=J (Y4.out.on hb);have S2:=J (S1.out.on hb);clear hb B1 Y2 Y3 Y4 S1;go_upto_region 6 with fail;refine agU _ wr w.heap.size (w.heap.size+1) me _ _ _ _ so n1 sc (fM b.seen (c,d)) b.seen (c,d) _ _ _ _ _ _ _ _ _ _ _ _ _ _ _ _ _ _ _ _ _ _ _ _ _ _ _ _ _ _ _ _ _ _ _ _ _ _ _ _ _ _ _ _ _ _ _ _ _ _ _ _ _ _ _ _ _ _ _ _ _ _ _ _ _ _ _ _ _ _ _ _ _ _ _ _ Z2.out (Sg Z3.out) S2.out (lS _ _) L1.out ?_;intro xw1 v29 v30 v31 v32 v33 v34 v35 v36 v37 v38 v39 v40 v41 v42 v43 v44 hbx ho hbl hoth hblk;obtain⟨sd1,sd2,hsv⟩:=(Row.dH ho).len;obtain⟨sl,hsl⟩:∃ n,n=(b.seen.take (fM b.seen (c,d))++[(c,d)]++b.seen.drop (fM b.seen (c,d))).length:=⟨_,rfl⟩;rw [<- hsl] at hsv;subst hsv;have B3:=J (B2.out.trans (hbl _ (au _)));have A2:=J hbx;have A3:=J (hoth _ _ _ (by omega) Z3.out);have A4:=J (hoth _ _ _ (by omega) Z4.out);have OS:=J (dN ho (show w.heap.size+3<=wr.heap.size by have:=Z4.out.lt; omega));have D3:=J (HD.out.on B3.out);clear hbx ho hbl hoth hblk hsl B2 Z2 Z3 Z4 S2 HD
  go_upto_block 2 with (fail)
  refine RY _ xw1 w.heap.size (w.heap.size+1) me c d _ _ _ _ _ _ ao n2 ac xs _ _ _ _ _ _ _ _ _ _ _ _ _ _ _ _ _ _ _ _ _ _ _ _ _ _ _ _ _ _ _ _ _ _ _ _ _ _ _ _ _ _ _ _ _ _ _ _ _ _ _ _ _ _ _ _ _ _ _ _ _ _ _ _ _ _ _ _ _ _ _ _ _ _ _ _ A2.out A3.out D3.out N2.out (by have:=XL.out; have:=N2.out; omega) ?_;intro ws v45 v46 v47 v48 v49 v50 v51 v52 v53 v54 v55 v56 v57 v58 v59 v60 v61 v62 hb;have B4:=J (B3.out.trans (hb.mono B3.out.size));have C2:=J (A2.out.on hb);have C3:=J (A3.out.on hb);have C4:=J (A4.out.on hb);have O4:=J (dI OS.out hb);have D4:=J (D3.out.on hb);clear hb B3 A2 A3 A4 OS D3;go_upto_region 10 with fail;refine aef _ ws w.heap.size (w.heap.size+1) me _ _ _ _ ao n2 ac (fM (xs.map fun y=>(y.1,y.2.1)) (c,d)) xs (c,d,(po,pn,pc),par) _ _ _ _ _ _ _ _ _ _ _ _ _ _ _ _ _ _ _ _ _ _ _ _ _ _ _ _ _ _ _ _ _ _ _ _ _ _ _ _ _ _ _ _ _ _ _ _ _ _ _ _ _ _ _ _ _ _ _ _ _ _ _ _ _ _ _ _ _ _ _ _ _ _ _ _ C2.out (PU (p:=(po,pn,pc)) C3.out) D4.out (by have:=lS (xs.map fun y=>(y.1,y.2.1)) (c,d); rw [List.length_map] at this; exact this) XL.out ?_;intro xw2 v63 v64 v65 v66 v67 v68 v69 v70 v71 v72 v73 v74 v75 v76 v77 hbx ho hbl hoth hblk;obtain⟨mK,mM,zJ⟩:=(Row.dH ho).len;obtain⟨tl,htl⟩:∃ n,n=(xs.take (fM (xs.map fun y=>(y.1,y.2.1)) (c,d))++[(c,d,(po,pn,pc),par)]++xs.drop (fM (xs.map fun y=>(y.1,y.2.1)) (c,d))).length:=⟨_,rfl⟩;rw [<- htl] at zJ;subst zJ;have hb5:=hbl _ (au w.heap.size);have B5:=J (B4.out.trans hb5);have E2:=hbx;have E4:=hoth _ _ _ (by omega) C4.out;have OD:=J (dN ho (show w.heap.size+3<=ws.heap.size by have:=C4.out.lt; omega));have OS:=J (O4.out.kept (w':=xw2) (row:=aD w.heap.size) ⟨hb5.os,hb5.tape,hb5.output,hb5.size,fun k hk hne=>hblk k hk (fun e=>hne (by rw [e]))⟩ (Si O4.out (by omega)));clear ho hbl hoth hblk htl hb5 hbx B4 C2 C3 C4 O4 D4;obtain⟨x0,x1,x2,x3,x4,x5⟩:=E2.fu;obtain⟨r0,r1,r2,r3,r4,r5⟩:=E4.fu;obtain⟨t0,t1,t2,t3,t4,t5⟩:=E4.kD;have zz:=E4.lt;have FB:=J (dL E4 (K L me) (D no nn nc) (D mK tl mM) (D sd1 sl sd2) (D eo en ec) (D oo dY oc));have BL:=J (dG (b:=w.heap.size+1+1) B5.out (by omega) (K L me) (D no nn nc) (D mK tl mM) (D sd1 sl sd2) (D eo en ec) (D oo dY oc));have FD:=J (fP OD.out (w.heap.size+1+1) (by omega) (K L me) (D no nn nc) (D mK tl mM) (D sd1 sl sd2) (D eo en ec) (D oo dY oc));have FS:=J (fP OS.out (w.heap.size+1+1) (by omega) (K L me) (D no nn nc) (D mK tl mM) (D sd1 sl sd2) (D eo en ec) (D oo dY oc));clear OD OS E2 E4;go_wp2_with fail;obtain⟨v0,v1,v2,v3,v4,v5⟩:=FB.out.fu;refine bodyPost_ret (v:=.tuple #[aN #[K L me,D no nn nc,D mK tl mM,D sd1 sl sd2,D eo en ec,D oo dY oc],V aH]) (by simp [results,Tryz.results45,go_sem,v0,v1,v2,v3,v4,v5]) rfl ?_;rw [LB.out];refine⟨⟨(mK,tl,mM),(sd1,sl,sd2),rfl,?_⟩,BL.out⟩;have hI:=HH.out.on BL.out;refine⟨hI.near,⟨_,Row.dH FD.out,?_⟩,?_,hI.ent,hI.own⟩
  ·have hA:=HA2.out.mono fun _ _ h=>h.on BL.out;rw [<- AI.out,<- IDS.out];exact ((hA.take _).append (.cons (HZ.out.on BL.out) .nil)).append (hA.drop _)
  ·rw [<- AI.out];exact Row.dH FS.out
def cutAt {α:Type} (l:List α) (k:Nat):List α:=l.take k++l.drop (k+1)
def gZ (b:Br) (x:Id) (f:Int):Br×Bool:=match b.dQ[(fI (b.dQ.map Ad.id) x).toNat]? with
 | none=>(b,Y)
 | some a=>if fI (b.dQ.map Ad.id) x=-1 then (b,Y) else if a.par=f then ({ b with dQ:=cutAt b.dQ (fI (b.dQ.map Ad.id) x).toNat,ent:=b.ent.filter fun e=>decide (e.tree≠x) },aH) else (b,Y)
theorem Mq (l:List jI) (x:Id):fI (l.map fun y=>(y.1,y.2.1)) x=-1\/∃ (k:Nat) (y:jI),fI (l.map fun y=>(y.1,y.2.1)) x=k/\l[k]?=aD y:=by
 induction l with
 | nil=>exact Or.inl rfl
 | cons a l ih =>
  rw [aJ,fI];by_cases h:(a.1,a.2.1)=x
  ·rw [if_pos h];exact Or.inr ⟨0,a,rfl,rfl⟩
  ·rw [if_neg h];rcases ih with h2|⟨k,y,h2,h3⟩
   ·rw [if_pos h2];exact Or.inl rfl
   ·rw [if_neg (by omega),h2];exact Or.inr ⟨k+1,y,by omega,by simpa using h3⟩
theorem fA.fil {α β:Type} {R:α->β->Prop} (p:α->Bool) (q:β->Bool) (hpq:∀ a b,R a b->p a=q b):∀ {l m},fA R l m->fA R (l.filter p) (m.filter q)
 | _,_,.nil=>.nil
 | _,_,.cons (a:=a) (b:=b) x t=>by
  have h:=hpq a b x;cases hb:q b
  ·rw [ay (by rw [h,hb]; simp),ay (by rw [hb]; simp)];exact t.fil p q hpq
  ·rw [aA (by rw [h,hb]),aA (by rw [hb])];exact .cons x (t.fil p q hpq)
theorem EG (a b c d:Int) (r:Bool) (h:(!(a == c && b == d))=r) (w:Z):(binOp .neq 31 (aN #[K L a,K L b]) (aN #[K L c,K L d])).run Tryz.prog w=.ok (V r) w:=by
 have st:=Mg;subst h;by_cases h1:a=c <;> by_cases h2:b=d <;> simp [go_sem,Tryz.underlying31,Tryz.underlying3,st,h1,h2]
def oz (x:Id) (e:iL):Bool:=decide ((e.1,e.2.1)≠x)
theorem zK {α:Type} (l:List α) (k:Nat) (y:α) (p:α->Bool) (h:l[k]?=aD y):(l.take (k+1)).filter p=(l.take k).filter p++(if p y then [y] else []):=by
 rw [List.take_add_one,h,List.filter_append];cases hp:p y <;> simp [hp]
theorem Gv (b:Br) (nv av sv ev ov:Sl) (x:Id) (f:Int) (w:Z) (h:iZ w b nv av sv ev ov) (l2:b.dQ.length<=900) (l3:b.ent.length<=900) :
  Calls Tryz.prog 40 #[oK b.me nv av sv ev ov,mZ x,K L f] w fun e w'=>(∃ Cb ev':Sl,e=aj (.tuple #[oK b.me nv Cb sv ev' ov,V (gZ b x f).2])/\iZ w' (gZ b x f).1 nv Cb sv ev' ov)/\Below w.heap.size w w':=by
 obtain⟨no,nn,nc⟩:=nv;obtain⟨ao,an,ac⟩:=av;obtain⟨so,sn,sc⟩:=sv;obtain⟨eo,en,ec⟩:=ev;obtain⟨oo,dY,oc⟩:=ov;obtain⟨c,d⟩:=x;obtain⟨xs,hx1,hx2⟩:=h.dQ;obtain⟨es,he1,he2⟩:=h.ent;have IDS:=J (zI hx2);have XL:=J (show xs.length<=900 by rw [hx2.len]; exact l2);have EL:=J (show es.length<=900 by rw [he2.len]; exact l3);have HA2:=J hx2;have HE2:=J he2;obtain⟨q1,q2,hq⟩:=hx1.len;obtain⟨rfl,rfl,rfl⟩:ao=q1/\an=xs.length/\ac=q2:=by
  have:D ao an ac=D q1 xs.length q2:=hq;simpa using this
 obtain⟨q1,q2,hq⟩:=he1.len;obtain⟨rfl,rfl,rfl⟩:eo=q1/\en=es.length/\ec=q2:=by
  have:D eo en ec=D q1 es.length q2:=hq;simpa using this
 have FD:=tN b.me (D no nn nc) (D eo es.length ec) (D so sn sc) (D oo dY oc) (ao,xs.length,ac) xs (c,d);have HH:=J h;obtain⟨h0,h1,h2,h3⟩:=gJ w #[K L b.me,D no nn nc,D ao xs.length ac,D so sn sc,D eo es.length ec,D oo dY oc] #[K L c,K L d] #[K L 0,D U 0 0,D U 0 0,D U 0 0,D U 0 0,D U 0 0] 28 31 28;obtain⟨n2,hn2⟩:∃ n,n=xs.length:=⟨_,rfl⟩;obtain⟨n3,Sj⟩:∃ n,n=es.length:=⟨_,rfl⟩;simp only [<- hn2,<- Sj] at h0 h1 h2 h3 hx1 he1 HH FD ⊢;have B0:=J h0;have X2:=J h1;have X3:=J h2;have X5:=J h3;have HS:=J hx1;have HE:=J he1;have N2:=J hn2;have N3:=J Sj;obtain⟨me,hme⟩:∃ me,me=b.me:=⟨_,rfl⟩;simp only [<- hme] at X2 B0 X3 X5 FD ⊢;clear h0 h1 h2 h3 hx1 he1 hx2 he2 h hq hn2 Sj l2 l3 hme;go_enter Tryz.func40,Tryz.ntmps40;go_upto_region 1 with fail;generalize (((w.alloc (O #[K L me,D no nn nc,D ao n2 ac,D so sn sc,D eo n3 ec,D oo dY oc] 28)).alloc (O #[K L c,K L d] 31)).alloc (O #[K L 0,D U 0 0,D U 0 0,D U 0 0,D U 0 0,D U 0 0] 28))=W at *;have SW:=J (FD W (HS.out.on B0.out));clear FD;obtain⟨x0,x1,x2,x3,x4,x5⟩:=X2.out.fu;obtain⟨y0,y1⟩:=X3.out.cs2;rcases Mq xs (c,d) with hf|⟨k,y,hf,hy⟩
 ·have LB:=J (show gZ b (c,d) f=(b,Y) by
   have hf':=hf;rw [IDS.out] at hf';unfold gZ;rw [hf']
   split
   ·rfl
   ·rw [if_pos rfl])
  rw [hf] at SW;clear hf;go_wp2_with fail;refine SW.out.mono ?_;rintro e1 w1 ⟨rfl,hb⟩;have B1:=J (B0.out.trans (hb.mono B0.out.size));have y9:=X2.out.on hb;have rX:=X5.out.on hb;clear SW hb x0 x1 x2 x3 x4 x5 y0 y1;obtain⟨x0,x1,x2,x3,x4,x5⟩:=y9.fu;obtain⟨r0,r1,r2,r3,r4,r5⟩:=rX.fu;obtain⟨t0,t1,t2,t3,t4,t5⟩:=rX.kD;have zz:=rX.lt;have FB:=J (dL rX (K L me) (D no nn nc) (D ao n2 ac) (D so sn sc) (D eo n3 ec) (D oo dY oc));have BL:=J (dG (b:=w.heap.size+1+1) B1.out (by omega) (K L me) (D no nn nc) (D ao n2 ac) (D so sn sc) (D eo n3 ec) (D oo dY oc));clear X2 X3 X5 y9 rX HS HE;go_wp2_with fail;obtain⟨v0,v1,v2,v3,v4,v5⟩:=FB.out.fu;refine bodyPost_ret (v:=.tuple #[aN #[K L me,D no nn nc,D ao n2 ac,D so sn sc,D eo n3 ec,D oo dY oc],V Y]) (by simp [results,Tryz.results40,go_sem,v0,v1,v2,v3,v4,v5]) rfl ?_;rw [LB.out];exact⟨⟨(ao,n2,ac),(eo,n3,ec),rfl,HH.out.on BL.out⟩,BL.out⟩
 ·rw [hf] at SW;have hk:=(ak.1 hy).1;have XL2:=XL.out;have hkn:k<n2:=by rw [N2.out]; exact hk
  have HF:=J hf;have HY:=J hy;obtain⟨p,ix,px⟩:=Mf HS.out rfl N2.out.symm hy;have LB:=J (show ∀ a,b.dQ[k]?=aD a->gZ b (c,d) f=if a.par=f then ({ b with dQ:=cutAt b.dQ k,ent:=b.ent.filter fun e=>decide (e.tree≠(c,d)) },aH) else (b,Y) from fun a ha=>by
   have hf':=HF.out;rw [IDS.out] at hf';unfold gZ;rw [hf',Int.toNat_natCast,ha];simp only;rw [if_neg (by omega)])
  obtain⟨z1,z2,⟨zo,zn,zc⟩,par⟩:=y;obtain⟨a,hak⟩:∃ a,b.dQ[k]?=aD a:=⟨_,Q (by rw [<- HA2.out.len]; exact hk)⟩;have hap:a.par=par:=by
   obtain⟨z,hz1,hz2⟩:=HA2.out.at k a hak;rw [HY.out] at hz1;obtain rfl:=aF hz1;exact hz2.2.1.symm
  have LC:=LB.out a hak;rw [hap] at LC;have hik:decide ((k:Int)<0)=Y:=decide_eq_false (by omega);go_wp2_with fail;refine SW.out.mono ?_;rintro e1 w1 ⟨rfl,hb⟩;have B1:=J (B0.out.trans (hb.mono B0.out.size));have y9:=X2.out.on hb;have X3a:=X3.out.on hb;have rX:=X5.out.on hb;have yO:=px w1 B1.out;obtain⟨p0,p1,p2,p3⟩:=yO;clear SW hb px HF LB hf hy hap hak x0 x1 x2 x3 x4 x5 y0 y1;by_cases hpf:par=f
  ·rw [if_pos hpf] at LC;have LB:=J LC;have hne:(par != f)=Y:=by simp [hpf]
   have HPF:=J hpf;have Z2:=J y9;have Z3:=J X3a;have Z5:=J rX;obtain⟨x0,x1,x2,x3,x4,x5⟩:=y9.fu;obtain⟨r0,r1,r2,r3,r4,r5⟩:=rX.fu;obtain⟨t0,t1,t2,t3,t4,t5⟩:=rX.kD;have zz:=rX.lt;clear LC hpf X2 X3 X5 y9 X3a rX;have S1:=J (HS.out.on B1.out);go_upto_region 4 with fail;refine agT _ w1 w.heap.size (w.heap.size+1) me _ _ _ _ ao n2 ac k xs _ _ _ _ _ _ _ _ _ _ _ _ _ _ _ _ _ _ _ _ _ _ _ _ _ _ _ _ _ _ _ _ _ _ _ _ _ _ _ _ _ _ _ _ _ _ _ _ _ _ _ _ _ _ _ _ _ Z2.out S1.out (by omega) XL.out ?_;intro xw v28 v29 v30 v31 v32 v33 v34 v35 v36 v37 v38 v39 v40 hbx ho hbl hoth hblk;obtain⟨mK,mM,zJ⟩:=(Row.dH ho).len;obtain⟨tl,htl⟩:∃ n,n=(xs.take k++xs.drop (k+1)).length:=⟨_,rfl⟩;rw [<- htl] at zJ;subst zJ;have B2:=J (B1.out.trans (hbl _ (au _)));have A2:=J hbx;have A3:=J (hoth _ _ _ (by omega) Z3.out);have A5:=J (hoth _ _ _ (by omega) Z5.out);have OD:=J (dN ho (show w.heap.size+3<=w1.heap.size by have:=Z5.out.lt; omega));have E3:=J (HE.out.on B2.out);have a4:=hbx.cell 4;simp only [aG,aB,aC] at a4;have W3:=J A5.out.lt;have nb:=EL.out;rw [<- N3.out] at nb;clear hbx ho hbl hoth hblk htl B1 Z2 Z3 Z5 S1 HS HE x0 x1 x2 x3 x4 x5 r0 r1 r2 r3 r4 r5 t0 t1 t2 t3 t4 t5 zz ix p0 p1 p2 p3 hne hik;go_wp2
   go_loopw [9,44] (fun v i wr=>∃ q:Nat,q<=n3/\i=K L q/\Below xw.heap.size xw wr/\kQ wr xw.heap.size v ((es.take q).filter (oz (c,d)))) (fun _ i _=>n3-(intOf i).toNat)
   case atStart=>exact⟨0,aM _,rfl,Below.refl _ _,iM _ _⟩
   case round =>
    obtain⟨q,hq,rfl,hbe,hown⟩:=hrel;have BE:=J hbe;have OE:=J hown;clear hbe hown;by_cases hlt:q<n3
    ·obtain⟨e,hy⟩:∃ e,es[q]?=aD e:=⟨_,Q (by rw [<- N3.out]; exact hlt)⟩;obtain⟨p,ix,px⟩:=Pp E3.out rfl N3.out.symm hy;obtain⟨p0,p1,p2,p3,p4,p5,p6⟩:=px wr BE.out;have FS:=J (zK es q e (oz (c,d)) hy);obtain⟨y1,y2,y3,y4,⟨yo,yn,yc⟩,y6,y7⟩:=e;simp only at p0 p1 p2 p3 p4 p5 p6;have NB:=J (gu wr (O #[K L y1,K L y2,K L y3,K L y4,D yo yn yc,K L y6,V y7] 66));obtain⟨x0,x1⟩:=((A3.out.on BE.out).on NB.out).cs2;have hw3:IntKind.i64.wrap ((q:Int)+1)=(q:Int)+1:=IntWalk.i64_in _ (by omega);obtain⟨r,hr⟩:∃ r,(!(y1 == c && y2 == d))=r:=⟨_,rfl⟩;have he:=EG y1 y2 c d r hr;have KN:=J (show oz (c,d) (y1,y2,y3,y4,(yo,yn,yc),y6,y7)=r by
      rw [<- hr];unfold oz;by_cases h1:y1=c <;> by_cases h2:y2=d <;> simp [h1,h2])
     clear px hy hr;cases r
     ·go_wp2
      go_roundw
      case rel=>exact⟨q+1,by omega,by go_num,BE.out.trans (NB.out.mono BE.out.size),by
       rw [FS.out,KN.out];simpa using dI OE.out NB.out⟩
      case measure=>simp [intOf]; omega
     ·have NB2:=J (gu (wr.alloc (O #[K L y1,K L y2,K L y3,K L y4,D yo yn yc,K L y6,V y7] 66)) (O #[K L y1,K L y2,K L y3,K L y4,D yo yn yc,K L y6,V y7] 66));have hlit:=iN nN (wr.alloc (O #[K L y1,K L y2,K L y3,K L y4,D yo yn yc,K L y6,V y7] 66)) [(y1,y2,y3,y4,(yo,yn,yc),y6,y7)] 1 rfl (by simp) #[K L y1,K L y2,K L y3,K L y4,D yo yn yc,K L y6,V y7] rfl;have o2:=dI (dI OE.out NB.out) NB2.out;have hB:xw.heap.size<=((wr.alloc (O #[K L y1,K L y2,K L y3,K L y4,D yo yn yc,K L y6,V y7] 66)).alloc (O #[K L y1,K L y2,K L y3,K L y4,D yo yn yc,K L y6,V y7] 66)).heap.size:=by have h1:=BE.out.size; simp; omega
      obtain⟨v',w',r',o',gr⟩:=gI nN xw.heap.size o2 (Row.dH hlit) (by have h1:=List.length_filter_le (oz (c,d)) (es.take q); rw [List.length_take] at h1; omega) (by simp) hB 25;have r':(Builtin.append_ #[25,25] 25 #[u9,D (aD ⟨wr.heap.size+1,0,U⟩) 1 1]).run Tryz.prog ((wr.alloc (O #[K L y1,K L y2,K L y3,K L y4,D yo yn yc,K L y6,V y7] 66)).alloc (O #[K L y1,K L y2,K L y3,K L y4,D yo yn yc,K L y6,V y7] 66))=.ok v' w':=by
       simpa [EN] using r'
      have BG:=J ((BE.out.trans ((NB.out.trans (NB2.out.mono NB.out.size)).mono BE.out.size)).grown gr hB fun j hj=>(o2.lt j hj).1);have OG:=J o';clear hlit o2 hB o' gr OE;go_wp2_with (first | (at_builtin; refine wpList_append_run rfl _ _ 25 rfl rfl rfl r' ?_) | fail)
      go_roundw
      case rel=>exact⟨q+1,by omega,by go_num,BG.out,by
       rw [FS.out,KN.out];simpa using OG.out⟩
      case measure=>simp [intOf]; omega
    ·obtain rfl:q=n3:=by omega
     have e:es.take q=es:=List.take_of_length_le (by have:=N3.out; omega);rw [e] at OE;obtain⟨FU,FV,hv⟩:=(Row.dH OE.out).len;obtain⟨vl,hvl⟩:∃ n,n=(es.filter (oz (c,d))).length:=⟨_,rfl⟩;rw [<- hvl] at hv;subst hv;have G2:=A2.out.on BE.out;have c4:=G2.cell 4;have g4:=G2.fr 4;have gl:=G2.lt;simp only [aG,aB,aC] at c4;clear hvl e a4 hlt hq nb;go_upto_region 13 with fail;have y9:=dR (k:=4) G2 (D FU vl FV);simp only [ah,aK,aL] at y9;have rX:dJ _ _ _ _:=(RowKit.Below.heap_setCell wr ⟨w.heap.size,4,U⟩ (D FU vl FV) _ (show w.heap.size+1+1≠w.heap.size by omega)).trans (A5.out.on BE.out);have OD2:=J (eO (dI OD.out BE.out) w.heap.size 4 (D FU vl FV) (by omega));have PV:=J (eO OE.out w.heap.size 4 (D FU vl FV) (by have:=W3.out; omega));have BQ:=J ((B2.out.trans (BE.out.mono B2.out.size)).setCell (p:=⟨w.heap.size,4,U⟩) (au _) (D FU vl FV));clear G2 c4 g4 gl OD OE B2 A2 A3 A5 E3;generalize wr.setCell ⟨w.heap.size,4,U⟩ (D FU vl FV)=wq at *;obtain⟨x0,x1,x2,x3,x4,x5⟩:=y9.fu;obtain⟨r0,r1,r2,r3,r4,r5⟩:=rX.fu;obtain⟨t0,t1,t2,t3,t4,t5⟩:=rX.kD;have zz:=rX.lt;have FB:=J (dL rX (K L me) (D no nn nc) (D mK tl mM) (D so sn sc) (D FU vl FV) (D oo dY oc));have BL:=J (dG (b:=w.heap.size+1+1) BQ.out (by omega) (K L me) (D no nn nc) (D mK tl mM) (D so sn sc) (D FU vl FV) (D oo dY oc));have FD:=J (fP OD2.out (w.heap.size+1+1) (by omega) (K L me) (D no nn nc) (D mK tl mM) (D so sn sc) (D FU vl FV) (D oo dY oc));have FE:=J (fP PV.out (w.heap.size+1+1) (by have:=W3.out; omega) (K L me) (D no nn nc) (D mK tl mM) (D so sn sc) (D FU vl FV) (D oo dY oc));clear OD2 PV BQ y9 rX;go_wp2_with fail;obtain⟨v0,v1,v2,v3,v4,v5⟩:=FB.out.fu;refine bodyPost_ret (v:=.tuple #[aN #[K L me,D no nn nc,D mK tl mM,D so sn sc,D FU vl FV,D oo dY oc],V aH]) (by simp [results,Tryz.results40,go_sem,v0,v1,v2,v3,v4,v5]) rfl ?_;rw [LB.out];refine⟨⟨(mK,tl,mM),(FU,vl,FV),rfl,?_⟩,BL.out⟩;have hI:=HH.out.on BL.out;refine⟨hI.near,⟨_,Row.dH FD.out,?_⟩,hI.seen,⟨_,Row.dH FE.out,?_⟩,hI.own⟩
     ·have hA:=HA2.out.mono fun _ _ h=>h.on BL.out;exact (hA.take _).append (hA.drop _)
     ·have hE:=HE2.out.mono fun _ _ h=>h.on BL.out;exact hE.fil _ _ fun a b h=>by unfold oz; rw [h.1]
  ·rw [if_neg hpf] at LC;have LB:=J LC;have hne:(par != f)=aH:=by simp [hpf]
   clear LC hpf;obtain⟨x0,x1,x2,x3,x4,x5⟩:=y9.fu;obtain⟨r0,r1,r2,r3,r4,r5⟩:=rX.fu;obtain⟨t0,t1,t2,t3,t4,t5⟩:=rX.kD;have zz:=rX.lt;clear X3a;have FB:=J (dL rX (K L me) (D no nn nc) (D ao n2 ac) (D so sn sc) (D eo n3 ec) (D oo dY oc));have BL:=J (dG (b:=w.heap.size+1+1) B1.out (by omega) (K L me) (D no nn nc) (D ao n2 ac) (D so sn sc) (D eo n3 ec) (D oo dY oc));clear X2 X3 X5 y9 rX HS HE;go_wp2_with fail;obtain⟨v0,v1,v2,v3,v4,v5⟩:=FB.out.fu;refine bodyPost_ret (v:=.tuple #[aN #[K L me,D no nn nc,D ao n2 ac,D so sn sc,D eo n3 ec,D oo dY oc],V Y]) (by simp [results,Tryz.results40,go_sem,v0,v1,v2,v3,v4,v5]) rfl ?_;rw [LB.out];exact⟨⟨(ao,n2,ac),(eo,n3,ec),rfl,HH.out.on BL.out⟩,BL.out⟩
structure PW (b:Br):Prop where
 near:b.near.length<=900
 dQ:b.dQ.length<=900
 seen:b.seen.length<=900
 ent:b.ent.length<=900
 own:b.own.length<=900
def gH {α:Type} (eq:α->α->Bool):List α->List α->Bool
 | [],[]=>aH
 | x::l,y::m=>eq x y && gH eq l m
 | _,_=>Y
theorem xu {α:Type} {eq:α->α->Bool}:∀ l m,gH eq l m=aH->l.length=m.length
 | [],[],_=>rfl
 | x::l,y::m,h=>by
  simp only [gH,X] at h;simp [xu l m h.2]
 | [],y::m,h=>by simp [gH] at h
 | x::l,[],h=>by simp [gH] at h
theorem qD {α:Type} {eq:α->α->Bool}:∀ l m,l.length=m.length->(∀ (k:Nat) (x y:α),l[k]?=aD x->m[k]?=aD y->eq x y=aH)->gH eq l m=aH
 | [],[],_,_=>rfl
 | x::l,y::m,hl,h=>by
  simp only [gH,X];exact⟨h 0 x y rfl rfl,qD l m (by simpa using hl) (fun k a b ha hb=>h (k+1) a b (by simpa using ha) (by simpa using hb))⟩
 | [],y::m,hl,_=>by simp at hl
 | x::l,[],hl,_=>by simp at hl
theorem iQ {α:Type} {eq:α->α->Bool}:∀ (l m:List α) (k:Nat) (x y:α),l[k]?=aD x->m[k]?=aD y->eq x y=Y->gH eq l m=Y
 | [],_,k,x,y,h,_,_=>by simp at h
 | _::_,[],k,x,y,_,h,_=>by simp at h
 | a::l,b::m,0,x,y,h1,h2,h3=>by
  simp at h1 h2;subst h1 h2;simp [gH,h3]
 | a::l,b::m,k+1,x,y,h1,h2,h3=>by
  simp only [gH,iQ l m k x y (by simpa using h1) (by simpa using h2) h3,Bool.and_false]
theorem qE {α:Type} {eq:α->α->Bool} (he:∀ x y,eq x y=aH↔x=y):∀ l m:List α,gH eq l m=aH↔l=m
 | [],[]=>by simp [gH]
 | x::l,y::m=>by
  simp only [gH,X,he,qE he l m,List.cons.injEq]
 | [],y::m=>by simp [gH]
 | x::l,[]=>by simp [gH]
def za (x y:Id):Bool:=x.1 == y.1 && x.2 == y.2
theorem pF (x y:Id):za x y=aH↔x=y:=by
 obtain⟨a,b⟩:=x;obtain⟨c,d⟩:=y;simp [za]
def Gw (x y:En):Bool:=za x.tree y.tree && (za x.sub y.sub && (x.from_ == y.from_ && (x.up == y.up && jv x.p y.p)))
theorem XT (x y:En):Gw x y=aH↔x=y:=by
 obtain⟨a,b,c,d,e⟩:=x;obtain⟨a',b',c',d',e'⟩:=y;simp only [Gw,X,pF,tO,beq_iff_eq,En.mk.injEq];constructor
 ·rintro⟨h1,h2,h3,h4,h5⟩;exact⟨h1,h2,h5,h3,h4⟩
 ·rintro⟨h1,h2,h3,h4,h5⟩;exact⟨h1,h2,h4,h5,h3⟩
theorem kL {a b:Bool} (h:a=b):aj (V a)=aj (V b):=by rw [h]
theorem PY (oL bv:aI) (l m:List Id) (w:Z) (ha:uY w oL l) (hb:uY w bv m) (hl:l.length<=1000000) :
  Calls Tryz.prog 50 #[oL,bv] w fun e w'=>e=aj (V (gH za l m))/\Below w.heap.size w w':=by
 have HA:=J ha;have HB:=J hb;obtain⟨ao,ac,rfl⟩:=ha.len;obtain⟨bo,bc,rfl⟩:=hb.len;clear ha hb;by_cases hlen:l.length=m.length
 ·have HL:=J hlen;rw [<- hlen] at HB ⊢;obtain⟨n,hn⟩:∃ n,n=l.length:=⟨_,rfl⟩;simp only [<- hn] at HA HB ⊢;have HN:=J hn.symm;rw [<- hn] at hl;clear hlen hn;go_enter Tryz.func50,Tryz.ntmps50;go_wp2
  go_loopw [5] (fun i wr=>∃ k:Nat,k<=n/\i=K L k/\Below w.heap.size w wr/\∀ (j:Nat) (x y:Id),j<k->l[j]?=aD x->m[j]?=aD y->za x y=aH) (fun i _=>n-(intOf i).toNat)
  case atStart=>exact⟨0,aM _,rfl,Below.refl _ _,fun j x y h=>by omega⟩
  case round =>
   obtain⟨k,hk,rfl,hbe,hall⟩:=hrel;have BE:=J hbe;have AL:=J hall;clear hbe hall;by_cases hlt:k<n
   ·obtain⟨x,hx⟩:∃ x,l[k]?=aD x:=⟨_,Q (by rw [HN.out]; exact hlt)⟩;obtain⟨y,hy⟩:∃ y,m[k]?=aD y:=⟨_,Q (by rw [<- HL.out,HN.out]; exact hlt)⟩;obtain⟨p,ix,px⟩:=elJ HA.out rfl HN.out hx;obtain⟨q,iy,py⟩:=elJ HB.out rfl (HL.out.symm.trans HN.out) hy;obtain⟨a,b⟩:=x;obtain⟨c,d⟩:=y;have p0:=cell_regrown (px _ BE.out).1;have p1:=cell_regrown (px _ BE.out).2;have q0:=cell_regrown (py _ BE.out).1;have q1:=cell_regrown (py _ BE.out).2;obtain⟨r,hr⟩:∃ r,za (a,b) (c,d)=r:=⟨_,rfl⟩;have hne:=EG a b c d (!r) (by rw [<- hr]; rfl);have HX:=J hx;have HY:=J hy;have HR:=J hr;clear px py hx hy hr;cases r
    ·have R:=J (show gH za l m=Y from iQ l m k _ _ HX.out HY.out HR.out);go_wp2;refine wp_region_quiet_below (by kernel_rfl) (by kernel_rfl) ?_
     repeat (go_big_quiet_step (fail))
     refine wpQuiet_nil ?_;intro _ hw';obtain⟨⟨dq,osq⟩,hw''⟩:=hw';subst hw'';go_wp2;go_ret;exact⟨kL R.out.symm,BE.out.trans ((below_regrown wr dq osq).mono BE.out.size)⟩
    ·go_wp2;refine wp_region_quiet_below (by kernel_rfl) (by kernel_rfl) ?_
     repeat (go_big_quiet_step (fail))
     refine wpQuiet_nil ?_;intro _ hw';obtain⟨⟨dq,osq⟩,hw''⟩:=hw';subst hw'';clear ix iy p0 p1 q0 q1 hne;go_wp2
     go_roundw
     case rel=>exact⟨k+1,by omega,by go_num,BE.out.trans ((below_regrown wr dq osq).mono BE.out.size),fun j x' y' hj h1 h2=>by
      rcases Nat.lt_or_ge j k with h3|h3
      ·exact AL.out j x' y' h3 h1 h2
      ·obtain rfl:j=k:=by omega
       have e1:=HX.out;have e2:=HY.out;rw [h1] at e1;rw [h2] at e2;rw [aF e1,aF e2];exact HR.out⟩
     case measure=>simp [intOf]; omega
   ·obtain rfl:k=n:=by omega
    have R:=J (show gH za l m=aH from qD l m (HL.out) (fun j a b h1 h2=>AL.out j a b (by have:=(ak.1 h1).1; have:=HN.out; omega) h1 h2));go_wp2;go_ret;exact⟨kL R.out.symm,BE.out⟩
 ·have R:=J (show gH za l m=Y by
   cases h:gH za l m
   ·rfl
   ·have h2:=xu _ _ h;exact absurd (h2) hlen)
  have hne:(((l.length:Nat):Int) != ((m.length:Nat):Int))=aH:=by simp; omega
  have hne2:(((l.length:Nat):Int) == ((m.length:Nat):Int))=Y:=by simp; omega
  clear hlen;go_enter Tryz.func50,Tryz.ntmps50;go_wp2;go_ret;exact⟨kL R.out.symm,Below.refl _ _⟩
end Go.Proofs.YtmklifheakemeaaGreat.Bk
