/-
  Take of package subs. Conditions as told.
-/
import Derived.Test.YtghlpefopidlaaaGreatCQ033
import Derived.Test.YtghlpefopidlaaaGreatCQ034
import Derived.Test.YtghlpefopidlaaaGreatCQ037
import Derived.Test.YtghlpefopidlaaaGreatCQ041
set_option maxRecDepth 100000
set_option maxHeartbeats 64000000
open _root_.Bool renaming false->aK,true->aM,false_eq_true->aY
open _root_.Go renaming World->aB,Value->aI,Calls->aX,Addr->bD,TypeId->bM
open Go.Ending renaming returned->aH
open Go.IntKind renaming i64->U
open Go.Lib renaming hid->O
open Go.Obj renaming cells->aL
open Go.Operand renaming tmp->aR
open Go.Proofs.Tryz renaming prog->aF,results117->aQ,ntmps171->bG,func111->bH,func171->bJ
open Go.Region renaming binds->aS
open Go.RowKit.Below renaming refl->aG
open Go.Value renaming slice->J,int->ah,pointer->aD,bool->aO,agg->bf
open _root_.List renaming getElem?_cons_zero->ak,getElem?_cons_succ->au,getElem?_toArray->ay,getElem?_eq_getElem->aC,getElem?_eq_some_iff->aJ,length_map->aU,takeWhile_cons->aW,all_eq_true->bg,length_nil->bB,mem_append->bC
open _root_.Nat renaming le_trans->aN,le_refl->aV,lt_of_lt_of_le->aZ,zero_le->bq,mul_le_mul->bF,zero_add->bI,le_of_lt->bL
open _root_.Option renaming none->aj,some->aA
open Option.some renaming inj->aT
open _root_.Or renaming inr->aP,inl->bK
namespace Go.Proofs.YtghlpefopidlaaaGreat
namespace Sb
open Go.RowKit Go.Sort Rw YtghlpefopidlaaaGreat.Nm Pr Bk Av Rl
theorem mq {α:Type} (l:List α) (k:Nat):(cutAt l k).Sublist l:=by
 unfold cutAt
 conv=>rhs; rw [<- List.take_append_drop k l]
 exact (List.Sublist.refl _).append (List.drop_sublist_drop_left l (Nat.le_succ k))
theorem lY {α:Type} {l:List α} {k:Nat} {x:α} (h:x∈cutAt l k):x∈l:=(mq l k).subset h
def uo (b:Br) (t s:dQ) (f:Int):Br×List En×Bool:=match xA b.ent t s with
 | none=>(b,[],aK)
 | some e=>if e.from_≠f then (b,[],aK) else if e.up=aK then ({ b with ent:=cutAt b.ent (dO (b.ent.map dJ) (t,s)) },[],aK) else
  ({ b with ent:=(cutAt b.ent (dO (b.ent.map dJ) (t,s))).take (fF (cutAt b.ent (dO (b.ent.map dJ) (t,s))) t)++(eO (jL (cutAt b.ent (dO (b.ent.map dJ) (t,s))) t) (jL (cutAt b.ent (dO (b.ent.map dJ) (t,s))) t).length).1++(cutAt b.ent (dO (b.ent.map dJ) (t,s))).drop (fF (cutAt b.ent (dO (b.ent.map dJ) (t,s))) t+(jL (cutAt b.ent (dO (b.ent.map dJ) (t,s))) t).length) },(eO (jL (cutAt b.ent (dO (b.ent.map dJ) (t,s))) t) (jL (cutAt b.ent (dO (b.ent.map dJ) (t,s))) t).length).2,aM)
theorem IL {m:List En} (hr:gU m) (t:dQ):iR t m m.length=(m.take (fF m t)++(eO (jL m t) (jL m t).length).1++m.drop (fF m t+(jL m t).length),(eO (jL m t) (jL m t).length).2):=by
 obtain⟨c,h1,h0,h2,h3,h4⟩:=xq hr t;have h:=yS h2 h3 h4;rw [<- h1] at h;rw [h];have e:m.drop (fF m t+(jL m t).length)=c:=by
  conv=>lhs; arg 2; rw [h1]
  rw [List.drop_left' (by rw [List.length_append,h0])]
 rw [e]
theorem oz {b:Br} (hr:gU b.ent) {t s:dQ} {f:Int}:uo b t s f=takeB b t s f:=by
 unfold uo takeB;have ft:=qX hr t s;rw [ft];cases ht:iI b.ent t s with
 | false =>
  rw [xB ht];simp only [aY,if_false];cases b.ent[(-1:Int).toNat]? <;> rfl
 | true =>
  obtain⟨e,h1,h2,h3⟩:=tZ ht;rw [h3];simp only [if_true];rw [Int.toNat_natCast,h1];simp only;rw [if_neg (show ¬ ((dO (b.ent.map dJ) (t,s):Int)=-1) by omega)];have hr2:gU (cutAt b.ent (dO (b.ent.map dJ) (t,s))):=hr.sublist (mq _ _);generalize cutAt b.ent (dO (b.ent.map dJ) (t,s))=m at *;rw [IL hr2]
theorem kL.less {w0 wr:aB} {B B':Nat} {x:iw} {e:En} (h:kL w0 B wr x e) (hB:B'<=B):kL w0 B' wr x e:=⟨h.1,h.2.1,h.2.2.1,h.2.2.2.1,h.2.2.2.2.imp id fun h=>dn h hB⟩
def Ld (w:aB) (P R:Prop) (r:Br×List En×Bool) (e:Ending) (w':aB):Prop:=(∃ (nv av sv ev ov uv:Sl) (lu:List iw),e=aH (.tuple #[nS r.1.me nv av sv ev ov,dH uv,aO r.2.2])/\ko w' r.1 nv av sv ev ov/\lC w' (dH uv) lu/\dV (kJ w') lu r.2.1/\(P->gT w' nv r.1.near)/\(R\/r.2.2=aM->iD w' r.1 nv av sv ev ov)/\iO w' w.heap.size (dH uv) lu/\∃ V:aB,dV (kL (vw V) w.heap.size w') lu r.2.1)/\Below w.heap.size w w'
theorem Cx (b:Br) (nv av sv ev ov:Sl) (t s:dQ) (f:Int) (w:aB) (h:ko w b nv av sv ev ov) (hf:yw b) (hp:mG b) (hr:gU b.ent) (hok:∀ e∈b.ent,eD e.p) :
  aX aF 117 #[nS b.me nv av sv ev ov,oJ t,oJ s,ah U f] w (Ld w (gT w nv b.near) (iD w b nv av sv ev ov) (takeB b t s f)):=by
 obtain⟨no,nn,nc⟩:=nv;obtain⟨ao,an,ac⟩:=av;obtain⟨so,sn,sc⟩:=sv;obtain⟨eo,en,ec⟩:=ev;obtain⟨oo,jF,oc⟩:=ov;obtain⟨c,d⟩:=t;obtain⟨g0,h0⟩:=s;obtain⟨n0,X,Y,Z,V⟩:=wY w #[ah U b.me,J no nn nc,J ao an ac,J so sn sc,J eo en ec,J oo jF oc] #[ah U c,ah U d] #[ah U g0,ah U h0] #[ah U 0,J aj 0 0,J aj 0 0,J aj 0 0,J aj 0 0,J aj 0 0] 30 23 23 30;have BB:=O n0;have X1:=O X;have X2:=O Y;have X4:=O V;have HH:=O h;have HF:=O hf;have HP:=O hp;have HR:=O hr;have OK:=O hok;have x4:=X.cell 4;simp only [ay,ak,au] at x4;obtain⟨y0,y1⟩:=Y.cs2;obtain⟨z0,z1⟩:=Z.cs2;obtain⟨Pn,hs1,hs2⟩:=h.ent;have Sd:=O (hs1.on n0);have QD:=O (hs2.mono fun _ _ q=>q.on n0);have PL:=O (tX (eo,en,ec) Pn b.ent (c,d) (g0,h0) _ Sd.out QD.out hr (by rw [hs2.len]; have:=hf.ent; omega));have hn:=iE hs1;have HN:=O hn;obtain⟨k,hk⟩:∃ k,dO (b.ent.map dJ) ((c,d),(g0,h0))=k:=⟨_,rfl⟩;obtain⟨th,hth⟩:∃ k,iI b.ent (c,d) (g0,h0)=k:=⟨_,rfl⟩;rw [hk,hth] at PL;have HK:=O hk;clear n0 X Y Z V h hf hp hr hok hs1 hs2 hn hk;go_enter Tryz.func117,Tryz.ntmps117;go_wp2_with fail;generalize (((w.alloc (aL #[ah U b.me,J no nn nc,J ao an ac,J so sn sc,J eo en ec,J oo jF oc] 30)).alloc (aL #[ah U c,ah U d] 23)).alloc (aL #[ah U g0,ah U h0] 23)).alloc (aL #[ah U 0,J aj 0 0,J aj 0 0,J aj 0 0,J aj 0 0,J aj 0 0] 30)=W at *;refine PL.out.mono ?_;rintro e1 w1 ⟨rfl,hb⟩;have BW:=O (BB.out.trans (hb.mono BB.out.size));have T1:=O (X1.out.on hb);have T2:=O (X2.out.on hb);have T4:=O (X4.out.on hb);have HB:=O hb;clear x4 y0 y1 z0 z1 PL hb X1 X2 X4;cases th
 ·have LQ:=O (show takeB b (c,d) (g0,h0) f=(b,[],aK) from by
   rw [<- oz HR.out];unfold uo;rw [xB hth])
  have Q1:=T1.out;have Q3:=T4.out;obtain⟨x0,x1,x2,x3,x4,x5⟩:=Q1.fQ;obtain⟨z0,z1,z2,z3,z4,z5⟩:=Q3.fQ;obtain⟨Dk,Dl,Dm,Dn,Dp,Dq⟩:=Q3.mD;have Dr:=Q3.lt;have FB:=O (dK Q3 (ah U b.me) (J no nn nc) (J ao an ac) (J so sn sc) (J eo en ec) (J oo jF oc));have FL:=O (dz (b:=w.heap.size+1+1+1) BW.out (by omega) (ah U b.me) (J no nn nc) (J ao an ac) (J so sn sc) (J eo en ec) (J oo jF oc));clear Q1 Q3;go_wp2_with fail;clear z0 z1 z2 z3 z4 z5;obtain⟨v0,v1,v2,v3,v4,v5⟩:=FB.out.fQ;refine bodyPost_ret (v:=.tuple #[bf #[ah U b.me,J no nn nc,J ao an ac,J so sn sc,J eo en ec,J oo jF oc],J aj 0 0,aO aK]) (by simp [results,aQ,go_sem,v0,v1,v2,v3,v4,v5]) rfl ?_;rw [LQ.out];exact⟨⟨(no,nn,nc),(ao,an,ac),(so,sn,sc),(eo,en,ec),(oo,jF,oc),(aj,0,0),[],rfl,HH.out.on FL.out,jc _,.nil,fun h=>h.on FL.out,fun h=>(h.resolve_right (by simp)).on FL.out,gN _ _,w,.nil⟩,FL.out⟩
 ·obtain⟨e,he,hke,hfe⟩:=tZ hth;rw [HK.out] at he;have hkm:=(aJ.1 he).1;have hkn:k<en:=by rw [<- HN.out,QD.out.len]; exact hkm
  obtain⟨y,hy,hx⟩:=QD.out.at k e he;obtain⟨p,ix,px⟩:=Pg Sd.out rfl HN.out hy;obtain⟨i0,i1,i2,i3,i4,i5,i6⟩:=px w1 HB.out;obtain⟨y1,y2,y3,y4,⟨yo,yn,yc⟩,y6,y7⟩:=y;simp only at i0 i1 i2 i3 i4 i5 i6;have FE:=O hfe;have EF:=O (show e.from_=y6 from hx.2.2.1.symm);have EU:=O (show e.up=y7 from hx.2.2.2.1.symm);have x4:=T1.out.cell 4;simp only [ay,ak,au] at x4;clear px hy hx he hke hfe hth i0 i1 i2 i3 i4;by_cases Mi:y6=f
  ·have hne:(y6 != f)=aK:=by simp [Mi]
   have YF:=O Mi;have Sg:=T1.out;clear Mi x4;obtain⟨x0,x1,x2,x3,x4,x5⟩:=Sg.fQ;clear Sg;go_wp2_with fail;refine (jB b (no,nn,nc) (ao,an,ac) (so,sn,sc) (eo,en,ec) (oo,jF,oc) w w1 BW.out HH.out HF.out HP.out).mono ?_;rintro e2 w2 ⟨⟨⟨p1,q1,s1⟩,⟨p2,q2,s2⟩,⟨p3,q3,s3⟩,⟨p4,q4,s4⟩,⟨p5,q5,s5⟩,rfl,cp⟩,hb2⟩;clear x0 x1 x2 x3 x4 x5;clear ix i5 i6 hne;have V4:=T4.out.on hb2;obtain⟨z0,z1,z2,z3,z4,z5⟩:=V4.fQ;obtain⟨Dk,Dl,Dm,Dn,Dp,Dq⟩:=V4.mD;have Dr:=V4.lt;have bs:=dU w2 (w.heap.size+1+1+1) (ah U b.me) (J p1 q1 s1) (J p2 q2 s2) (J p3 q3 s3) (J p4 q4 s4) (J p5 q5 s5);have FB:=O (dK V4 (ah U b.me) (J p1 q1 s1) (J p2 q2 s2) (J p3 q3 s3) (J p4 q4 s4) (J p5 q5 s5));have FC:=O (cp.but bs V4);have FL:=O (dz (b:=w.heap.size+1+1+1) (BW.out.trans (hb2.mono BW.out.size)) (by omega) (ah U b.me) (J p1 q1 s1) (J p2 q2 s2) (J p3 q3 s3) (J p4 q4 s4) (J p5 q5 s5));have F2:=O (bs.box (T2.out.on hb2) (by omega));have L1:=O (show w.heap.size+1+1+1<w1.heap.size from T4.out.lt);clear V4 bs cp hb2 T1 T2 T4 HB;go_upto_region 6 with fail;clear z0 z1 z2 z3 z4 z5 Dk Dl Dm Dn Dp Dq Dr;unfold iy at FB FC FL F2;generalize ((((((w2).setCell ⟨w.heap.size+1+1+1,0,aj⟩ (ah U b.me)).setCell ⟨w.heap.size+1+1+1,1,aj⟩ (J p1 q1 s1)).setCell ⟨w.heap.size+1+1+1,2,aj⟩ (J p2 q2 s2)).setCell ⟨w.heap.size+1+1+1,3,aj⟩ (J p3 q3 s3)).setCell ⟨w.heap.size+1+1+1,4,aj⟩ (J p4 q4 s4)).setCell ⟨w.heap.size+1+1+1,5,aj⟩ (J p5 q5 s5)=w3 at *;obtain⟨le,hle1,hle2⟩:=FC.out.ent;have hq4:le.length=q4:=iE (Row.dx hle1);have hlm:le.length=b.ent.length:=hle2.len;obtain⟨g,rfl,hBg⟩:∃ g,p4=aA ⟨g,0,aj⟩/\w1.heap.size<=g:=lK hle1 (show 0<q4 by omega);have KQ:=O (show k<q4 by omega);have DE:=O (IG w1.heap.size g q4 s4 k le w3 hle1 (by omega) (by have:=HF.out.ent; omega));have rU:=O hle1;have HL2:=O hle2;have BG:=O hBg;have N9:=O (show q4<=900 by have:=HF.out.ent; omega);have x4:=FB.out.cell 4;simp only [ay,ak,au] at x4;have hw3:IntKind.i64.wrap ((k:Int)+1)=(k:Int)+1:=IntWalk.i64_in _ (by have:=HF.out.ent; omega);clear hle1 hle2 hq4 hlm hBg;go_wp2_with fail;refine DE.out.mono ?_;rintro e4 w4 ⟨rfl,hown,iN,hlow⟩;have hoff:Off (dH (aA ⟨g,0,aj⟩,q4,s4)).ownBlock w3 w4:=⟨fun j hj hne=>iN.1 j hj fun e=>hne (by rw [e]; rfl),iN.2⟩;have TG:=fH rU.out;have CP:=O (FC.out.Il (ev':=(aA ⟨g,0,aj⟩,q4-1,s4)) (el:=cutAt b.ent k) hoff ⟨cutAt le k,hown,(fun {h}=>((h:dV _ le b.ent).take k).append (h.drop (k+1))) (h:=HL2.out.mono fun _ _ q=>q.off hoff TG (by decide))⟩);have G8:=iN.box FB.out (show w.heap.size+1+1+1≠g by have:=BG.out; have:=L1.out; omega);have G2:=iN.box F2.out (show w.heap.size+1≠g by have:=BG.out; have:=L1.out; omega);have BL:=hlow w.heap.size w (by have:=BG.out; have:=L1.out; omega) FL.out;clear x4 hw3;have x4:=G8.cell 4;have Cm:=G8.fr 4;have xlt:=G8.lt;simp only [ay,ak,au] at x4;have bs:=dF w4 (w.heap.size+1+1+1) 4 (J (aA ⟨g,0,aj⟩) (q4-1) s4);have Le:=O (CP.out.but bs G8);have Si:=O (bs.box G2 (by omega));have Jy:=O (BL.setCell (p:=⟨w.heap.size+1+1+1,4,aj⟩) (show w.heap.size<=w.heap.size+1+1+1 by omega) (J (aA ⟨g,0,aj⟩) (q4-1) s4));have Mj:=O (show cZ (w4.setCell ⟨w.heap.size+1+1+1,4,aj⟩ (J (aA ⟨g,0,aj⟩) (q4-1) s4)) (w.heap.size+1+1+1) #[ah U b.me,J p1 q1 s1,J p2 q2 s2,J p3 q3 s3,J (aA ⟨g,0,aj⟩) (q4-1) s4,J p5 q5 s5] 30 by simpa using dL (k:=4) G8 (J (aA ⟨g,0,aj⟩) (q4-1) s4));have S5:=O (show w1.heap.size<=(w4.setCell ⟨w.heap.size+1+1+1,4,aj⟩ (J (aA ⟨g,0,aj⟩) (q4-1) s4)).heap.size by have:=iN.2; have h2:=FL.out.size; obtain⟨cur,hg⟩:=fP hown; have:=hg.lt; have:=BG.out; simp; omega);clear hown iN hlow hoff TG CP G8 G2 BL bs FB FC FL F2 rU HL2 DE le;go_upto_region 7 with fail;clear x4 Cm xlt;generalize w4.setCell ⟨w.heap.size+1+1+1,4,aj⟩ (J (aA ⟨g,0,aj⟩) (q4-1) s4)=w5 at *;obtain⟨n4,QE⟩:∃ n,n=q4-1:=⟨_,rfl⟩;rw [<- QE] at Mj Le ⊢;have NN:=O QE;clear QE;cases y7
   ·have LQ:=O (show takeB b (c,d) (g0,h0) f=({ b with ent:=cutAt b.ent k },[],aK) from by
     rw [<- oz HR.out];unfold uo;rw [FE.out];simp only;rw [if_neg (by rw [EF.out]; simpa using YF.out),if_pos EU.out,HK.out])
    have G8:=O Mj.out;have BQ:=O Jy.out;clear Mj Jy S5;generalize w5=wq at *;have Q3:=G8.out;obtain⟨z0,z1,z2,z3,z4,z5⟩:=Q3.fQ;obtain⟨Dk,Dl,Dm,Dn,Dp,Dq⟩:=Q3.mD;have Dr:=Q3.lt;have bs:=dU wq (w.heap.size+1+1+1) (ah U b.me) (J p1 q1 s1) (J p2 q2 s2) (J p3 q3 s3) (J (aA ⟨g,0,aj⟩) n4 s4) (J p5 q5 s5);have FB:=O (dK Q3 (ah U b.me) (J p1 q1 s1) (J p2 q2 s2) (J p3 q3 s3) (J (aA ⟨g,0,aj⟩) n4 s4) (J p5 q5 s5));have FC:=O (Le.out.but bs Q3);have FL:=O (dz (b:=w.heap.size+1+1+1) BQ.out (by omega) (ah U b.me) (J p1 q1 s1) (J p2 q2 s2) (J p3 q3 s3) (J (aA ⟨g,0,aj⟩) n4 s4) (J p5 q5 s5));clear Q3 bs;go_wp2_with fail;clear z0 z1 z2 z3 z4 z5;obtain⟨v0,v1,v2,v3,v4,v5⟩:=FB.out.fQ;refine bodyPost_ret (v:=.tuple #[bf #[ah U b.me,J p1 q1 s1,J p2 q2 s2,J p3 q3 s3,J (aA ⟨g,0,aj⟩) n4 s4,J p5 q5 s5],J aj 0 0,aO aK]) (by simp [results,aQ,go_sem,v0,v1,v2,v3,v4,v5]) rfl ?_;rw [LQ.out];exact⟨⟨(p1,q1,s1),(p2,q2,s2),(p3,q3,s3),(aA ⟨g,0,aj⟩,n4,s4),(p5,q5,s5),(aj,0,0),[],rfl,FC.out.Md,jc _,.nil,fun _=>⟨_,FC.out.near⟩,fun _=>⟨_,_,FC.out⟩,gN _ _,w,.nil⟩,FL.out⟩
   ·obtain⟨m,hm⟩:∃ m,cutAt b.ent k=m:=⟨_,rfl⟩;rw [hm] at Le;have RM:=O (show gU m by rw [<- hm]; exact HR.out.sublist (mq _ _));have OM:=O (show ∀ e∈m,eD e.p by rw [<- hm]; exact fun e he=>OK.out e (lY he));have LQ:=O (show takeB b (c,d) (g0,h0) f=({ b with ent:=m.take (fF m (c,d))++(eO (jL m (c,d)) (jL m (c,d)).length).1++m.drop (fF m (c,d)+(jL m (c,d)).length) },(eO (jL m (c,d)) (jL m (c,d)).length).2,aM) from by
     rw [<- oz HR.out];unfold uo;rw [FE.out];simp only;rw [if_neg (by rw [EF.out]; simpa using YF.out),if_neg (by rw [EU.out]; simp),HK.out,hm])
    have LM:=O (show m.length=n4 by rw [<- hm]; obtain⟨l,h1,h2⟩:=Le.out.ent; rw [hm,<- h2.len]; exact iE (Row.dx h1));clear hm;obtain⟨l5,hl1,hl2⟩:=Le.out.ent
    replace hl2:dV (kL (vw w) w1.heap.size w5) l5 m:=hl2
    replace hl1:iO w5 w1.heap.size (J (aA ⟨g,0,aj⟩) n4 s4) l5:=hl1
    have hin:dV (kJ w5) l5 m:=hl2.mono fun _ _ q=>rA q (qJ Jy.out);have KV:=pz m (c,d);have h9:=N9.out;have hnn:=NN.out;have hlm:=LM.out;have hll:l5.length=m.length:=hl2.len;have hcap:n4<=s4:=by
     rcases dY hl1 with⟨h1,_⟩|⟨g',cap',cur,h1,_,_,h4,_⟩
     ·cases h1
     ·obtain⟨_,_,rfl⟩:g=g'/\n4=l5.length/\s4=cap':=by simpa using h1
      omega
    have Np:=O (rz (aA ⟨g,0,aj⟩,n4,s4) l5 m (c,d) w5 (Row.dx hl1) hin RM.out (by omega));have eb:(m.drop (fF m (c,d))).take (jL m (c,d)).length=jL m (c,d):=by
     unfold jL
     conv=>lhs; arg 2; rw [<- List.takeWhile_append_dropWhile (p:=fun e:En=>decide (e.tree=(c,d))) (l:=m.drop (fF m (c,d)))]
     rw [List.take_left]
    have RA:=O (fun (w6:aB) (hb:Below w5.heap.size w5 w6) (ra:Option bD) (rc:Nat) hra=>Cj (vw w) w1.heap.size g n4 s4 (fF m (c,d)) (jL m (c,d)).length ra rc l5 m w6 (qJ (Jy.out.trans (hb.mono Jy.out.size))) (bq _) (Bk.dw hl1 hb) (hl2.mono fun _ _ q=>q.grow hb) (by omega) (by omega) hra OM.out);rw [eb] at RA;generalize TL:fF m (c,d)=f5 at *;generalize hb5:jL m (c,d)=bm at *;have HC:=O hcap;have TM:=O KV;clear hl1 hl2 hin h9 hnn hlm hll KV eb TL hb5 hcap;have x4:=Mj.out.cell 4;simp only [ay,ak,au] at x4;have y1:=Si.out.cell 1;have y0:=Si.out.cell 0;simp only [ay,ak,au] at y0 y1;unfold cutV at Np;simp only at Np;obtain⟨ra,hra⟩:∃ x,(if s4=f5 then (⟨g,0,aj⟩:bD) else (⟨g,0,aj⟩:bD).add (f5 * 7))=x:=⟨_,rfl⟩;rw [hra] at Np;have TN:=O hra;clear hra;go_wp2_with fail;refine Np.out.mono ?_;rintro e6 w6 ⟨rfl,hb⟩;have RB:=RA.out w6 hb (aA ra) (s4-f5) (fun hK=>⟨by rw [<- TN.out,if_neg (by have:=HC.out; have:=TM.out; have:=LM.out; omega),jM],rfl⟩);have H6:=O hb;have C6:=O (Le.out.grow hb);have Sj:=O (Mj.out.on hb);have QF:=O (Jy.out.trans (hb.mono Jy.out.size));clear x4 y0 y1 hb Np RA;go_wp2_with fail;refine RB.mono ?_;rintro e7 wq ⟨⟨Pk,Pm,Sk⟩,rfl,Nb⟩;obtain⟨⟨lq,hq1,hq2⟩,⟨lu,hu1,hu2⟩,iN,hlow⟩:=Nb;have hoff:Off (dH (aA ⟨g,0,aj⟩,n4,s4)).ownBlock w6 wq:=⟨fun j hj hne=>iN.1 j hj fun e=>hne (by rw [e]; rfl),iN.2⟩;have CQ:=O (C6.out.Il (ev':=(aA ⟨g,0,aj⟩,n4,s4)) hoff ⟨lq,hq1,hq2⟩);have G8:=O (iN.box Sj.out (show w.heap.size+1+1+1≠g by have:=BG.out; have:=L1.out; omega));have BQ:=O (hlow w.heap.size w (by have:=BG.out; have:=L1.out; omega) QF.out);have TP:=O hu1;have TQ:=O hu2;have L6:=O QF.out.size;clear hq1 hq2 hu1 hu2 iN hlow hoff RB C6 Sj QF Mj Le Jy H6;have Q3:=G8.out;obtain⟨z0,z1,z2,z3,z4,z5⟩:=Q3.fQ;obtain⟨Dk,Dl,Dm,Dn,Dp,Dq⟩:=Q3.mD;have Dr:=Q3.lt;have bs:=dU wq (w.heap.size+1+1+1) (ah U b.me) (J p1 q1 s1) (J p2 q2 s2) (J p3 q3 s3) (J (aA ⟨g,0,aj⟩) n4 s4) (J p5 q5 s5);have FB:=O (dK Q3 (ah U b.me) (J p1 q1 s1) (J p2 q2 s2) (J p3 q3 s3) (J (aA ⟨g,0,aj⟩) n4 s4) (J p5 q5 s5));have FC:=O (CQ.out.but bs Q3);have FL:=O (dz (b:=w.heap.size+1+1+1) BQ.out (by omega) (ah U b.me) (J p1 q1 s1) (J p2 q2 s2) (J p3 q3 s3) (J (aA ⟨g,0,aj⟩) n4 s4) (J p5 q5 s5));have FU:=O (bs.own TP.out Q3 (by decide));have FV:=O (TQ.out.mono fun _ _ q=>kL.but q bs Q3 (by decide));clear Q3 bs;go_wp2_with fail;clear z0 z1 z2 z3 z4 z5;obtain⟨v0,v1,v2,v3,v4,v5⟩:=FB.out.fQ;refine bodyPost_ret (v:=.tuple #[bf #[ah U b.me,J p1 q1 s1,J p2 q2 s2,J p3 q3 s3,J (aA ⟨g,0,aj⟩) n4 s4,J p5 q5 s5],J Pk Pm Sk,aO aM]) (by simp [results,aQ,go_sem,v0,v1,v2,v3,v4,v5]) rfl ?_;rw [LQ.out];exact⟨⟨(p1,q1,s1),(p2,q2,s2),(p3,q3,s3),(aA ⟨g,0,aj⟩,n4,s4),(p5,q5,s5),(Pk,Pm,Sk),lu,rfl,FC.out.Md,Row.dx FU.out,FV.out.mono fun _ _ q=>rA q (qJ FL.out),fun _=>⟨_,FC.out.near⟩,fun _=>⟨_,_,FC.out⟩,dn FU.out L6.out,w,FV.out.mono fun _ _ q=>kL.less q L6.out⟩,FL.out⟩
  ·have hne:(y6 != f)=aM:=by simp [Mi]
   have YF:=O Mi;clear Mi x4;have LQ:=O (show takeB b (c,d) (g0,h0) f=(b,[],aK) from by
    rw [<- oz HR.out];unfold uo;rw [FE.out];simp only;rw [if_pos (by rw [EF.out]; exact YF.out)])
   have Q1:=T1.out;have Q3:=T4.out;obtain⟨x0,x1,x2,x3,x4,x5⟩:=Q1.fQ;obtain⟨z0,z1,z2,z3,z4,z5⟩:=Q3.fQ;obtain⟨Dk,Dl,Dm,Dn,Dp,Dq⟩:=Q3.mD;have Dr:=Q3.lt;have FB:=O (dK Q3 (ah U b.me) (J no nn nc) (J ao an ac) (J so sn sc) (J eo en ec) (J oo jF oc));have FL:=O (dz (b:=w.heap.size+1+1+1) BW.out (by omega) (ah U b.me) (J no nn nc) (J ao an ac) (J so sn sc) (J eo en ec) (J oo jF oc));clear Q1 Q3;go_wp2_with fail;clear z0 z1 z2 z3 z4 z5;obtain⟨v0,v1,v2,v3,v4,v5⟩:=FB.out.fQ;refine bodyPost_ret (v:=.tuple #[bf #[ah U b.me,J no nn nc,J ao an ac,J so sn sc,J eo en ec,J oo jF oc],J aj 0 0,aO aK]) (by simp [results,aQ,go_sem,v0,v1,v2,v3,v4,v5]) rfl ?_;rw [LQ.out];exact⟨⟨(no,nn,nc),(ao,an,ac),(so,sn,sc),(eo,en,ec),(oo,jF,oc),(aj,0,0),[],rfl,HH.out.on FL.out,jc _,.nil,fun h=>h.on FL.out,fun h=>(h.resolve_right (by simp)).on FL.out,gN _ _,w,.nil⟩,FL.out⟩
end Sb
namespace Rt
open Go.RowKit Go.Sort Rw YtghlpefopidlaaaGreat.Nm Pr Bk Av Sb
theorem Cy {α:Type} (key:α->dQ) (l:List α) (x:dQ) (j:Nat) (y:α) (hj:j<dM key l x) (hy:l[j]?=aA y):dB (key y) x=aM:=by
 have ht:(l.takeWhile fun a=>dB (key a) x)[j]?=aA y:=by
  obtain⟨t,ht⟩:=List.takeWhile_prefix (fun a=>dB (key a) x) (l:=l);rw [<- ht,List.getElem?_append_left hj] at hy;exact hy
 exact bg.1 List.all_takeWhile y (List.mem_of_getElem? ht)
theorem uq {α:Type} (key:α->dQ) (x:dQ):∀ (m:List α) (y:α),m[dM key m x]?=aA y->dB (key y) x=aK
 | [],_,h=>by simp [dM] at h
 | a::m,y,h=>by
  unfold dM at h;cases ha:dB (key a) x with
  | true =>
   simp only [aW,ha,if_true,List.length_cons,au] at h;exact uq key x m y h
  | false =>
   simp only [aW,ha,aY,if_false,bB,ak] at h;rw [<- aT h];exact ha
theorem pG {α:Type} (key:α->dQ) (l:List α) (x:dQ):dM key l x<=l.length:=(List.takeWhile_sublist _).length_le
theorem Cz {α:Type} {key:α->dQ} {l:List α} (hr:gQ key l) (x:dQ) {i:Nat} {e:α} (hi:dM key l x<=i) (he:l[i]?=aA e):dB (key e) x=aK:=by
 have hlt:=(aJ.1 he).1;obtain⟨z,hz⟩:∃ z,l[dM key l x]?=aA z:=⟨_,aC (by omega)⟩;have h0:=uq key x l z hz;rcases Nat.lt_or_ge (dM key l x) i with h|h
 ·have h1:=gY hr h hz he;cases hq:dB (key e) x with
  | false=>rfl
  | true=>rw [fB h1 hq] at h0; cases h0
 ·have e1:i=dM key l x:=by omega
  rw [e1,hz] at he;rw [<- aT he];exact h0
theorem Fx {W W1:aB} {v:aI} {l:List jJ} {ao:Option bD} {n c k:Nat} {x:jJ} (h:yt W v l) (hv:v=J ao n c) (hn:l.length=n) (hk:l[k]?=aA x) (hb:Below W.heap.size W W1) :
  ∃ p:bD,(∀ w,(Instr.indexAt 28 (J ao n c) (ah U k)).run aF w=.ok (aD (aA p)) w) /\
   (∀ d os,(grow (redrawn W1 d) os).cell? p=aA (ah U x.1))/\(∀ d os,(grow (redrawn W1 d) os).cell? ⟨p.block,p.off+1,aj⟩=aA (ah U x.2.1)) /\
   (∀ d os,(grow (redrawn W1 d) os).cell? ⟨p.block,p.off+2,aj⟩=aA (dH x.2.2)):=by
 obtain⟨p,h1,h2⟩:=SY h hv hn hk;obtain⟨c0,c1,c2⟩:=h2 _ hb;exact⟨p,h1,cell_regrown c0,cell_regrown c1,cell_regrown c2⟩
theorem Fy (args:Array aI) (w:aB):(callFunc 111 args).run aF w=.ok (.enter 111 args) w:=fu bH rfl rfl args w
theorem Fz (i:Nat) (b1 b2:Nat) (ao:Option bD) (n ac:Nat) (l:List jJ) (t:dQ) (y:jJ) (r:Bool) (w:aB) (hv:yt w (J ao n ac) l) (hn:l.length=n) (hy:l[i]?=aA y) (hr:(!dB (y.1,y.2.1) t)=r)
  (h1:cZ w b1 #[J ao n ac] 28) (h2:cZ w b2 #[ah U t.1,ah U t.2] 23) :
  aX aF 111 #[ah U i,aD (aA ⟨b1,0,aj⟩),aD (aA ⟨b2,0,aj⟩)] w fun e w'=>e=aH (aO r)/\Below w.heap.size w w':=by
 obtain⟨p,ix,p0,p1,p2⟩:=Fx hv rfl hn hy (aG _ _);have a0:=cell_regrown (h1.cell 0);have b0:=cell_regrown (h2.cell 0);have b1':=cell_regrown (h2.cell 1);have C:∀ k os,aX aF 31 #[oJ (y.1,y.2.1),oJ t] (grow (redrawn w k) os) fun e w''=>e=aH (aO (dB (y.1,y.2.1) t))/\∃ p:Regrown,w''=grow (redrawn w p.d) p.os:=fun k os=>Calls.regrown_of (lU (y.1,y.2.1) t _);generalize dB (y.1,y.2.1) t=q at *;have R:=O hr;have BN:=O (fun dq osq=>below_regrown w dq osq);obtain⟨y1,y2,⟨yo,yn,yc⟩⟩:=y;obtain⟨c,d⟩:=t;simp only at p0 p1 p2 b0 b1' C;clear hv hn hy hr h1 h2 p2;go_enter bH,Tryz.ntmps111;go_wp2;refine wp_region_quiet_below (by kernel_rfl) (by kernel_rfl) ?_
 repeat (go_big_quiet_step (first | (with_reducible exact C _ _) | exact Cb _ _))
 refine wpQuiet_nil ?_;intro _ hw';obtain⟨⟨dq,osq⟩,hw''⟩:=hw';subst hw'';go_wp2;go_ret;exact⟨congrArg (fun b=>aH (aO b)) R.out,BN.out _ _⟩
theorem pI {W:aB} {l:List jJ} {m:List Ow} (h:dV (AJ W) l m) {i:Nat} {y:jJ} (hy:l[i]?=aA y):∃ e,m[i]?=aA e/\(y.1,y.2.1)=e.id:=by
 have hlt:=(aJ.1 hy).1;obtain⟨e,he⟩:∃ e,m[i]?=aA e:=⟨_,aC (by rw [<- h.len]; exact hlt)⟩;obtain⟨y',hy',hx⟩:=h.at i e he;rw [hy] at hy';obtain rfl:=aT hy';exact⟨e,he,hx.1⟩
theorem rE (v:Sl) (l:List jJ) (m:List Ow) (t:dQ) (w:aB) (hv:yt w (dH v) l) (hA:dV (AJ w) l m) (hr:gQ Ow.id m) (hl:l.length<=1000) :
  aX aF 42 #[dH v,oJ t] w fun e w'=>e=aH (.tuple #[ah U (dM Ow.id m t),aO (eY Ow.id m t)])/\Below w.heap.size w w':=by
 obtain⟨so,n,sc⟩:=v;have hn:l.length=n:=iE hv;obtain⟨c,d⟩:=t;obtain⟨k,hk⟩:∃ k,dM Ow.id m (c,d)=k:=⟨_,rfl⟩;obtain⟨th,hth⟩:∃ k,eY Ow.id m (c,d)=k:=⟨_,rfl⟩;have hkn:k<=n:=by rw [<- hk,<- hn,hA.len]; exact pG _ _ _
 rw [hk,hth];obtain⟨h0,X,Y⟩:=gP w #[J so n sc] #[ah U c,ah U d] 28 23;have BB:=O h0;have HV:=O (hv.on h0);have HA:=O (hA.mono fun _ _ q=>q.on h0);have X1:=O X;have Y1:=O Y;have x0:=X.cell 0;simp only [ay,ak] at x0;have HF:=O (show ∀ i,i<n->∀ W,Below ((w.alloc (aL #[J so n sc] 28)).alloc (aL #[ah U c,ah U d] 23)).heap.size ((w.alloc (aL #[J so n sc] 28)).alloc (aL #[ah U c,ah U d] 23)) W ->
   aX aF 111 (#[ah U i]++#[aD (aA ⟨w.heap.size,0,aj⟩),aD (aA ⟨w.heap.size+1,0,aj⟩)]) W fun e w'=>e=aH (aO ((fun i=>match l[i]? with | some y=>!dB (y.1,y.2.1) (c,d) | none=>aM) i))/\Below W.heap.size W w' from fun i hi W hb=>by
  obtain⟨y,hy⟩:∃ y,l[i]?=aA y:=⟨_,aC (by omega)⟩;refine Fz i _ _ so n sc l (c,d) y _ W (HV.out.on hb) hn hy ?_ (X1.out.on hb) (Y1.out.on hb);simp only [hy])
 have Ju:=O (show ∀ i,i<k->(fun i=>match l[i]? with | some y=>!dB (y.1,y.2.1) (c,d) | none=>aM) i=aK from fun i hi=>by
  obtain⟨y,hy⟩:∃ y,l[i]?=aA y:=⟨_,aC (by omega)⟩;obtain⟨e,he,hke⟩:=pI HA.out hy;have h1:=Cy Ow.id m (c,d) i e (by rw [hk]; exact hi) he;simp only [hy,hke,h1]
  rfl)
 have Jv:=O (show ∀ i,k<=i->i<n->(fun i=>match l[i]? with | some y=>!dB (y.1,y.2.1) (c,d) | none=>aM) i=aM from fun i hi hi2=>by
  obtain⟨y,hy⟩:∃ y,l[i]?=aA y:=⟨_,aC (by omega)⟩;obtain⟨e,he,hke⟩:=pI HA.out hy;have h1:=Cz hr (c,d) (by rw [hk]; exact hi) he;simp only [hy,hke,h1]
  rfl)
 have HK:=O hk;have HT:=O hth;have HN:=O hn;have ln:n<=1000:=by omega
 clear hv hA h0 X Y hk hth hl hn hr;go_enter Tryz.func42,Tryz.ntmps42;go_wp2_with fail;generalize (w.alloc (aL #[J so n sc] 28)).alloc (aL #[ah U c,ah U d] 23)=W at *;refine (nk 111 #[aD (aA ⟨w.heap.size,0,aj⟩),aD (aA ⟨w.heap.size+1,0,aj⟩)] Fy n k _ W (by omega) HF.out hkn Ju.out Jv.out).mono ?_;rintro e1 w1 ⟨rfl,hb⟩;have BN:=O (fun dq osq=>(BB.out.trans (hb.mono BB.out.size)).trans ((below_regrown w1 dq osq).mono (BB.out.trans (hb.mono BB.out.size)).size));have a0:=cell_regrown (show w1.cell? ⟨w.heap.size,0,aj⟩=aA (J so n sc) from (X1.out.on hb).cell 0);have b0:=cell_regrown (show w1.cell? ⟨w.heap.size+1,0,aj⟩=aA (ah U c) from (Y1.out.on hb).cell 0);have b1:=cell_regrown (show w1.cell? ⟨w.heap.size+1,1,aj⟩=aA (ah U d) from (Y1.out.on hb).cell 1);clear x0 HF Ju Jv;by_cases hkl:k<n
 ·obtain⟨y,hy⟩:∃ y,l[k]?=aA y:=⟨_,aC (by rw [HN.out]; exact hkl)⟩;obtain⟨p,ix,p0,p1,p2⟩:=Fx HV.out rfl HN.out hy hb;have TH:=O (show th=decide ((y.1,y.2.1)=(c,d)) from by
   obtain⟨e,he,hke⟩:=pI HA.out hy;rw [<- HT.out,eY,HK.out,he,hke])
  have g4:decide ((k:Int)<(n:Int))=aM:=by simp; omega
  obtain⟨y1,y2,⟨yo,yn,yc⟩⟩:=y;simp only at p0 p1 p2;clear p2 hb hy;obtain⟨r1,hr1⟩:∃ r,(y1 == c && y2 == d)=r:=⟨_,rfl⟩;have e1:=uR y1 y2 c d r1 hr1;have R:=O (show th=r1 from by
   rw [TH.out,<- hr1,Bool.eq_iff_iff];simp only [decide_eq_true_eq,Bool.and_eq_true,beq_iff_eq,Prod.mk.injEq])
  clear hr1 TH HT;cases r1
  all_goals
   go_wp2;refine wp_region_quiet_below (by kernel_rfl) (by kernel_rfl) ?_
   repeat (go_big_quiet_step (fail))
   refine wpQuiet_nil ?_;intro _ hw';obtain⟨⟨dq,osq⟩,hw''⟩:=hw';subst hw'';go_wp2
   go_ret2
   exact⟨by rw [R.out]; rfl,BN.out _ _⟩
 ·have TH:=O (show th=aK from by
   rw [<- HT.out,eY,HK.out,List.getElem?_eq_none (by rw [<- HA.out.len,HN.out]; omega)])
  have g4:decide ((k:Int)<(n:Int))=aK:=by simp; omega
  clear hb HT;go_wp2;refine wp_region_quiet_below (by kernel_rfl) (by kernel_rfl) ?_
  repeat (go_big_quiet_step (fail))
  refine wpQuiet_nil ?_;intro _ hw';obtain⟨⟨dq,osq⟩,hw''⟩:=hw';subst hw'';go_wp2
  go_ret2
  exact⟨by rw [TH.out]; rfl,BN.out _ _⟩
end Rt
namespace Pr
open Go.RowKit Pu Rw
theorem FI {α:Type} {E:Ek α} (K:E.Ok) (tn:bM) (htn:Tryz.prog.underlying tn=aA (.int .i64)) (n:Nat) (h0:0<n) (hn:n<=1000) (W:aB) :
  ∃ (G:Nat) (R:Array aI),n<=G/\G<=maxLen/\R.size=G * E.n /\
   ∀ ty,(Builtin.append_ #[E.ts,tn] ty #[J aj 0 0,ah U n]).run aF W=.ok (J (aA ⟨W.heap.size,0,aj⟩) n G) (W.drew.alloc (aL R E.t)):=by
 obtain⟨i,i1,i2,i3,i4⟩:=K.info;have hf:=K.few;have hpos:=K.pos;have happ:=fun ty=>Lib.run_append_grow_zeros (P:=aF) W E.ts tn ty E.t i _ U U K.hu htn i1 i2 aj 0 0 [] (run_firstCells_none _ _ _ _ _) n h0 (by rw [i3]; exact hpos) (by omega) (by omega)
  (by rw [i4]; exact aN (bF hn hf) (by decide))
  (growslice_fits (by omega) (by rw [i4]; exact aN (bF (show 0+n<=2000 by omega) hf) (by decide)))
 rw [bI] at happ;have hG1:=grownCap_ge W n 0 E.t;have hG2:=grownCap_le_maxLen W n 0 E.t (by unfold maxLen; omega);generalize grownCap W n 0 E.t=G at happ hG1 hG2;refine⟨G,_,hG1,hG2,?_,happ⟩;simp only [Array.size_append,List.size_toArray,bB,size_zeroCells,K.zs,bI,<- Nat.add_mul];rw [show n+(G-n)=G by omega]
def FJ (l:List C5) (w:aB) (e:Ending) (w':aB):Prop:=∃ v,e=aH v/\fV w' w.heap.size v l/\Below w.heap.size w w'
theorem FK (n:Nat) (w:aB) (hn:n<=200) :
  aX aF 171 #[J aj 0 0,ah U n] w (FJ [] w):=by
 rcases Nat.eq_zero_or_pos n with rfl|h0
 ·have Q:=O (show FJ [] w (aH (J aj 0 0)) w from ⟨_,rfl,gN _ _,aG _ _⟩);go_enter bJ,bG;go_wp2;go_ret;exact Q.out
 ·obtain⟨G,R,g1,g2,g3,hr⟩:=FI (E:=EC) qC 3 Tryz.underlying3 n h0 (by omega) w;have r:=hr 34;have s1:=fZ (E:=EC) qC ⟨w.heap.size,0,aj⟩ 0 n G (bq _);have Q:=O (show FJ [] w (aH (J (aA ⟨w.heap.size,0,aj⟩) 0 G)) (w.drew.alloc (aL R 91)) from
   ⟨_,rfl,jf qC (l:=[]) rfl (aV _) (dG w.drew R 91) (bq _) g2 g3 (by simp [flat]),(aG _ _).drew.alloc (by simp) _⟩)
  change (Builtin.append_ #[34,3] 34 #[J aj 0 0,ah U (n:Int)]).run aF w=.ok (J (aA ⟨w.heap.size,0,aj⟩) n G) (w.drew.alloc (aL R 91)) at r;change ∀ W,(Instr.sliceAt 34 (J (aA ⟨w.heap.size,0,aj⟩) n G) aj (aA (ah U 0)) aj).run aF W=.ok (J (aA ⟨w.heap.size,0,aj⟩) 0 G) W at s1;have e1:decide ((n:Int)<0)=aK:=by simp
  have e2:decide ((0:Int)<(n:Int))=aM:=by simp; omega
  unfold maxLen at g2;clear hr g3;go_enter bJ,bG;go_wp2_with (first | (at_builtin; refine fD rfl _ _ 34 3 rfl rfl rfl r ?_) | fail);go_ret;exact Q.out
def QG (n m:Nat) (s i:aI):Prop:=(i=ah U 0/\s=ah U 0)\/(i=ah U 1/\s=ah U (n:Int))\/(i=ah U 2/\s=ah U ((n+m:Nat):Int))
def QH (w:aB) (a b:List C5) (v i:aI) (wr:aB):Prop:=((i=ah U 0/\fV wr w.heap.size v [])\/(i=ah U 1/\fV wr w.heap.size v a)\/(i=ah U 2/\fV wr w.heap.size v (a++b)))/\Below w.heap.size w wr
theorem yY (g:Nat) (tY bv:aI) (a b:List C5) (w:aB) (c0:w.cell? ⟨g,0,aj⟩=aA tY) (c1:w.cell? ⟨g,1,aj⟩=aA bv) (ha:fI w tY a) (hb:fI w bv b) (la:a.length<=100) (lb:b.length<=100) :
  aX aF 135 #[J (aA ⟨g,0,aj⟩) 2 2] w (FJ (a++b) w):=by
 have HA:=O ha;have HB:=O hb;have C0:=O c0;have C1:=O c1;have hg:g<w.heap.size:=World.block_lt_of_cell? w _ c0;obtain⟨ao,ac,rfl⟩:=ha.len;obtain⟨bo,bc,rfl⟩:=hb.len;clear ha hb c0 c1;go_enter Tryz.func135,Tryz.ntmps135;go_wp2
 go_loop [3,11] (fun s i=>QG a.length b.length s i) (fun _ i=>(2-intOf i).toNat)
 case atStart=>exact bK ⟨rfl,rfl⟩
 case round =>
  rcases hrel with⟨rfl,rfl⟩|⟨rfl,rfl⟩|⟨rfl,rfl⟩
  ·have c0:=C0.out;go_wp2
   go_round
   case rel=>exact aP (bK ⟨rfl,rfl⟩)
   case measure=>simp [intOf]
  ·have c1:=C1.out;go_wp2
   go_round
   case rel=>exact aP (aP ⟨rfl,by go_num⟩)
   case measure=>simp [intOf]
  ·have GR:=O (FK (a.length+b.length) w (by omega));go_wp2_with fail;refine GR.out.mono ?_;rintro e1 w1 ⟨v1,rfl,ho,hb1⟩;have O1:=O ho;have B1:=O hb1;clear ho hb1 GR;go_wp2
   go_loopw [6,27] (fun v i wr=>QH w a b v i wr) (fun _ i _=>(2-intOf i).toNat)
   case atStart=>exact⟨bK ⟨rfl,O1.out⟩,B1.out⟩
   case round =>
    obtain⟨hc,hbw⟩:=hrel;have BW:=O hbw;clear hbw;rcases hc with⟨rfl,ho⟩|⟨rfl,ho⟩|⟨rfl,ho⟩
    ·have c0:=(BW.out.cell (p:=⟨g,0,aj⟩) hg).trans C0.out;obtain⟨v',w',r,o',gr⟩:=Ky w.heap.size ho (HA.out.on BW.out) (by simp) (by omega) BW.out.size;have B':=O (BW.out.grown gr BW.out.size (fun j hj=>(ho.lt j hj).1));have O':=O o';clear ho o' gr;go_wp2_with (first | (at_builtin; refine wpList_append_run rfl _ _ 34 rfl rfl rfl r ?_) | fail)
     go_roundw
     case rel=>exact⟨aP (bK ⟨rfl,O'.out⟩),B'.out⟩
     case measure=>simp [intOf]
    ·have c1:=(BW.out.cell (p:=⟨g,1,aj⟩) hg).trans C1.out;obtain⟨v',w',r,o',gr⟩:=Ky w.heap.size ho (HB.out.on BW.out) (by omega) (by omega) BW.out.size;have B':=O (BW.out.grown gr BW.out.size (fun j hj=>(ho.lt j hj).1));have O':=O o';clear ho o' gr;go_wp2_with (first | (at_builtin; refine wpList_append_run rfl _ _ 34 rfl rfl rfl r ?_) | fail)
     go_roundw
     case rel=>exact⟨aP (aP ⟨rfl,O'.out⟩),B'.out⟩
     case measure=>simp [intOf]
    ·have Q:=O (show FJ (a++b) w (aH _) _ from ⟨_,rfl,ho,BW.out⟩);clear ho;go_wp2;go_ret;exact Q.out
end Pr
namespace Rl
open Go.RowKit Go.Sort Pu Rw Pr Va
def FN (a b:List Cn) (w:aB) (e:Ending) (w':aB):Prop:=Below w.heap.size w w'/\(match iG a.length a b with
 | .ok p=>∃ pv,e=aH (.tuple #[pv,aO aM])/\fI w' pv (p.map r5)
 | .error _=>∃ pv,e=aH (.tuple #[pv,aO aK]))
theorem xH {a b:List Cn} (na:NF a) (nb:NF b):D9 (a++b):=⟨by have:=na.five; have:=nb.five; simp; omega,fun c hc=>by
 rcases bC.1 hc with h|h
 ·exact na.small c h
 ·exact nb.small c h⟩
theorem IQ (tY bv:aI) (a b:List Cn) (w:aB) (ha:fI w tY (a.map r5)) (hb:fI w bv (b.map r5)) (na:NF a) (nb:NF b):aX aF 88 #[tY,bv] w (FN a b w):=by
 have B0:=O (show Below w.heap.size w (w.alloc (aL #[tY,bv] 34)) from (aG _ _).alloc (aV _) _);have CT:=O (yY w.heap.size tY bv (a.map r5) (b.map r5) (w.alloc (aL #[tY,bv] 34)) (by simp [go_sem]) (by simp [go_sem]) (ha.on B0.out) (hb.on B0.out) (by rw [aU]; have:=na.five; omega) (by rw [aU]; have:=nb.five; omega));have SP:=O (xH na nb);have GD:=O (show ∀ c∈a++b,qy c=aM from fun c hc=>by
  rcases bC.1 hc with h|h
  ·exact na.good c h
  ·exact nb.good c h)
 have MB:=O (AO (b:=b) na.rise na.five);obtain⟨ao,ac,rfl⟩:=ha.len;obtain⟨bo,bc,rfl⟩:=hb.len;clear ha hb na nb;simp only [aU] at CT B0 ⊢;obtain⟨res,hres⟩:∃ r,r=iG a.length a b:=⟨_,rfl⟩;have MQ:=O (show ∀ e w',(Below w.heap.size w w'/\(match res with
  | .ok p=>∃ pv,e=aH (.tuple #[pv,aO aM])/\fI w' pv (p.map r5)
  | .error _=>∃ pv,e=aH (.tuple #[pv,aO aK])))->FN a b w e w' from fun e w' h=>by unfold FN; rw [<- hres]; exact h)
 rw [<- hres] at MB;generalize hq:FN a b w=q at *;clear hq hres;go_enter Tryz.func88,Tryz.ntmps88;go_wp2_with fail;refine CT.out.mono ?_;rintro e1 w1 ⟨v1,rfl,ho,hb1⟩;have B1:=O (B0.out.trans (hb1.mono B0.out.size));have MK:=O (Fg v1 (a++b) w1 (by rw [List.map_append]; exact Row.dx ho) SP.out GD.out);clear ho hb1 CT SP GD B0;go_wp2_with fail;refine MK.out.mono ?_;rintro e2 w2 ⟨hb2,h2⟩;have B2:=O (B1.out.trans (hb2.mono B1.out.size));rw [MB.out] at h2;clear hb2 MK B1 MB;rcases res with _|p
 ·obtain⟨bb,rfl⟩:=h2;go_wp2
  go_region
  all_goals simp only [Exit.then]
  all_goals apply_assumption
  all_goals go_wp2
  all_goals exact MQ.out _ _ ⟨B2.out.drew,_,rfl⟩
 ·obtain⟨pv,rfl,hp⟩:=h2;have HP:=O hp;clear hp;go_wp2
  go_region
  all_goals simp only [Exit.then]
  all_goals apply_assumption
  all_goals go_wp2
  all_goals exact MQ.out _ _ ⟨B2.out.drew,_,rfl,HP.out.on (aG _ _).drew⟩
theorem yZ (tY bv:aI) (a b:List Cn) (w:aB) (ha:fI w tY (a.map r5)) (hb:fI w bv (b.map r5)) (na:NF a) (nb:NF b):aX aF 28 #[tY,bv] w fun e w'=>e=aH (aO (uM a b))/\Below w.heap.size w w':=by
 have T:=O (IQ tY bv a b w ha hb na nb);have MM:=O (show uM a b=match iG a.length a b with
  | .ok _=>aM
  | .error _=>aK from rfl)
 unfold FN at T;generalize uM a b=r at *;generalize iG a.length a b=res at *;clear ha hb na nb;go_enter Tryz.func28,Tryz.ntmps28;go_wp2_with fail;refine T.out.mono ?_;rintro e1 w1 ⟨hb1,h1⟩;have B1:=O hb1;clear hb1 T;rcases res with _|p
 ·obtain⟨pv,rfl⟩:=h1;have M:=O (show r=aK from MM.out);clear MM;go_wp2;go_ret;exact⟨dW M.out.symm,B1.out⟩
 ·obtain⟨pv,rfl,hp⟩:=h1;have M:=O (show r=aM from MM.out);clear MM hp;go_wp2;go_ret;exact⟨dW M.out.symm,B1.out⟩
end Rl
namespace Fl
open Go.RowKit Go.Sort Rw YtghlpefopidlaaaGreat.Nm Pr Bk Av
def Lf (W:aB) (B:Nat) (x:lV) (o:Ou):Prop:=x.1=o.Na/\x.2.1=o.kind/\(x.2.2.1,x.2.2.2.1)=o.tree/\(x.2.2.2.2.1,x.2.2.2.2.2.1)=o.id/\fV W B (dH x.2.2.2.2.2.2.1) o.p/\x.2.2.2.2.2.2.2=(aj,0,0)
theorem Lf.le {W:aB} {B B':Nat} {x:lV} {o:Ou} (h:Lf W B x o) (hB:B'<=B):Lf W B' x o:=⟨h.1,h.2.1,h.2.2.1,h.2.2.2.1,dn h.2.2.2.2.1 hB,h.2.2.2.2.2⟩
structure kX (W:aB) (B:Nat) (v:aI) (lx:List lV) (l:List Ou):Prop where
 row:yL W B v lx
 all:dV (Lf W B) lx l
theorem kX.on {W W':aB} {B:Nat} {v:aI} {lx:List lV} {l:List Ou} (h:kX W B v lx l) (hb:Below W.heap.size W W'):kX W' B v lx l:=⟨Bk.dw h.row hb,h.all.mono fun _ _ q=>⟨q.1,q.2.1,q.2.2.1,q.2.2.2.1,Bk.dw q.2.2.2.2.1 hb,q.2.2.2.2.2⟩⟩
theorem kX.le {W:aB} {B B':Nat} {v:aI} {lx:List lV} {l:List Ou} (h:kX W B v lx l) (hB:B'<=B):kX W B' v lx l:=⟨dn h.row hB,h.all.mono fun _ _ q=>q.le hB⟩
theorem kX.nil (W:aB) (B:Nat):kX W B (J aj 0 0) [] []:=⟨gN _ _,.nil⟩
theorem kX.but {W W':aB} {B g:Nat} {v:aI} {lx:List lV} {l:List Ou} {cs:Array aI} {t:bM} (h:kX W B v lx l) (hk:But g W W') (hg:cZ W g cs t) (h1:(46 == t)=aK) (h2:(91 == t)=aK):kX W' B v lx l:=⟨hk.own h.row hg h1,h.all.mono fun _ _ q=>⟨q.1,q.2.1,q.2.2.1,q.2.2.2.1,hk.own q.2.2.2.2.1 hg h2,q.2.2.2.2.2⟩⟩
theorem kX.len {W:aB} {B:Nat} {v:aI} {lx:List lV} {l:List Ou} (h:kX W B v lx l):lx.length=l.length:=h.all.len
theorem kX.more {W W':aB} {B:Nat} {v v':aI} {lx ly:List lV} {l m:List Ou} (h:kX W B v lx l) (gr:W.grownBy W' v.ownBlock) (ho:yL W' B v' (lx++ly)) (hx:dV (Lf W B) ly m):kX W' B v' (lx++ly) (l++m) :=
 ⟨ho,dV.append (h.all.mono fun _ _ q=>⟨q.1,q.2.1,q.2.2.1,q.2.2.2.1,zX h.row gr q.2.2.2.2.1 (by decide),q.2.2.2.2.2⟩) (hx.mono fun _ _ q=>⟨q.1,q.2.1,q.2.2.1,q.2.2.2.1,zX h.row gr q.2.2.2.2.1 (by decide),q.2.2.2.2.2⟩)⟩
end Fl
namespace Rg
open Go.RowKit Rw Av
structure Jz (i N S:Nat) (d last:Nat->Nat) (V:Nat->aI->aB->Prop) (base:Act) (o:Oper) (a:Act) (x:aB):Prop where
 kp:∀ j u,(∀ i,i<N->d i≠j)->base.tmps[j]?=aA u->a.eval (aR j)=u
 at_:∀ e∈o.after,aS .any e=aM->e.on≠S->(last e.on=i\/N<=last e.on)->V e.on (a.eval (aR (d e.on))) x
def JA (b:Nat) (W x:aB):Prop:=But b W x/\∀ B,B<=b->Below B W x
theorem JA.grow {b:Nat} {W x x':aB} (h:JA b W x) (hl:b<W.heap.size) (hb:Below x.heap.size x x'):JA b W x' :=
 ⟨⟨fun k hk hne=>(hb.block k (aZ hk h.1.2)).trans (h.1.1 k hk hne),aN h.1.2 hb.size⟩,fun B hB=>(h.2 B hB).trans (hb.mono (aN (aN hB (bL hl)) h.1.2))⟩
structure TR (l:List Oper) (N S C:Nat) (d last:Nat->Nat) (V:Nat->aI->aB->Prop) (t:bM) (bb:Nat) (old:Array aI) (Dj:aI->Array aI) (base:Act) (W:aB) (L:Array Bool) (a:Act) (x:aB):Prop where
 cl:∀ i o,done L i->l[i]?=aA o->∀ e∈o.after,aS .any e=aM->done L e.on
 no:∀ i,N<=i->¬ done L i
 df:a.defers=base.defers
 sz:a.tmps.size=base.tmps.size
 kp:∀ j,(∀ i,i<N->d i≠j)->a.tmps[j]?=base.tmps[j]?
 Pp:JA bb W x
 val:∃ vs:Nat->aI,∀ i,i<N->i≠S->done L i->a.tmps[d i]?=aA (vs i)/\(¬ done L (last i)->V i (vs i) x)
 box:¬ done L S->Below W.heap.size W x/\cZ x bb old t
 fin:done L S->∃ v,a.tmps[d C]?=aA v/\cZ x bb (Dj v) t/\V C v x
theorem CF {P:Program} {Q:Exit->Act->aB->Prop} {id:Nat} {base:Act} {W:aB} {l:List Oper} (N S C:Nat) (d last:Nat->Nat) (V:Nat->aI->aB->Prop) (fl:Nat->Bool) (t:bM) (bb:Nat) (old:Array aI) (Dj:aI->Array aI)
  (hm:P.follows .mixedOrders=aM) (hf:yg l.toArray=aM) (hN:l.length=N) (hS:S<N) (hC:C<N) (hCS:C≠S) (MS:N<=last C) (jS:cZ W bb old t)
  (hinj:∀ i j,i<N->j<N->i≠S->j≠S->d i=d j->i=j) (hs:∀ i,i<N->i≠S->d i<base.tmps.size)
  (hV:∀ i v x x',i<N->V i v x->Below x.heap.size x x'->V i v x')
  (hfl:∀ o,l[S]?=aA o->∀ i,i<N->i≠S->fl i=aK->∃ e∈o.after,aS .any e=aM/\e.on=i) (Nq:fl C=aK)
  (hop:∀ i o,i<N->i≠S->l[i]?=aA o->∀ a x,(fl i=aK->Below W.heap.size W x/\cZ x bb old t)->Jz i N S d last V base o a x->∀ K:Act->aB->Prop,(∀ v x',V i v x'->Below x.heap.size x x'->K (a.put (aA (d i)) v) x')->wpOp P l.toArray Q i K a x)
  (P9:∀ o,l[S]?=aA o->∀ a x v,Below W.heap.size W x->cZ x bb old t->a.eval (aR (d C))=v->V C v x->(∀ j u,base.tmps[j]?=aA u->(∀ i,i<N->d i≠j)->a.eval (aR j)=u)->∀ K:Act->aB->Prop,(∀ x',But bb x x'->(∀ B w,B<=bb->Below B w x->Below B w x')->cZ x' bb (Dj v) t->(∀ j u,j<N->j≠S->N<=last j->V j u x->V j u x')->K a x')->wpOp P l.toArray Q S K a x)
  (hlast:∀ j,j<N->j≠S->N<=last j\/(last j<N/\last j≠S/\fl (last j)=aK))
  (hend:∀ a x v,a.defers=base.defers->a.tmps.size=base.tmps.size->(∀ j,(∀ i,i<N->d i≠j)->a.tmps[j]?=base.tmps[j]?)->a.tmps[d C]?=aA v->cZ x bb (Dj v) t->V C v x->JA bb W x->(∃ vs:Nat->aI,∀ i,i<N->i≠S->a.tmps[d i]?=aA (vs i)/\(N<=last i->V i (vs i) x))->Q .normal a x):(Code.region id l.toArray aM).wp P Q base W:=by
 have hbl:bb<W.heap.size:=jS.lt;refine kI (fun L a x=>TR l N S C d last V t bb old Dj base W L a x) hm hf ?_ ?_ ?_
 ·exact⟨fun i o h=>absurd h (fA _ _),fun i _=>fA _ _,rfl,rfl,fun _ _=>rfl,⟨⟨fun _ _ _=>rfl,aV _⟩,fun B hB=>(aG _ _).drew⟩,⟨fun _=>.bool aM,fun i _ _ h=>absurd h (fA _ _)⟩,fun _=>⟨(aG _ _).drew,jS⟩,fun h=>absurd h (fA _ _)⟩
 ·intro L a x i o hsz I ho hnd jC;have hi:i<l.length:=(aJ.1 ho).1;have GV:i<N:=by omega
  have qD:i<L.size:=by omega
  obtain⟨vs,hvs⟩:=I.val;obtain⟨oS,wG⟩:∃ oS,l[S]?=aA oS:=⟨_,aC (by omega)⟩;have hon:∀ e∈o.after,aS .any e=aM->e.on<i:=fun e he hb=>by
   have h7:=bg.1 hf i (List.mem_range.2 (by simpa using hi));have ho':(l.toArray)[i]?=aA o:=by simpa using ho
   rw [ho'] at h7;have h8:=Array.all_eq_true'.1 h7 e he;rw [hb] at h8;simpa using h8
  have dd:∀ {k},k≠i->done (L.setIfInBounds i aM) k->done L k:=fun {k} h h5=>((eT qD k).1 h5).resolve_left h;have du:∀ {k},done L k->done (L.setIfInBounds i aM) k:=fun {k} h=>(eT qD k).2 (aP h);have cl':∀ k q,done (L.setIfInBounds i aM) k->l[k]?=aA q->∀ e∈q.after,aS .any e=aM->done (L.setIfInBounds i aM) e.on:=fun k q hk hq e he hb=>by
   by_cases e2:k=i
   ·subst e2;rw [hq] at ho;cases ho;exact du (jC e he hb)
   ·exact du (I.cl k q (dd e2 hk) hq e he hb)
  have no':∀ k,N<=k->¬ done (L.setIfInBounds i aM) k:=fun k hk h=>I.no k hk (dd (by omega) h);have early:∀ k,k<N->k≠S->fl k=aK->¬ done L k->¬ done L S:=fun k hk rY KV hnk TS=>by
   obtain⟨e,h1,h2,h3⟩:=hfl oS wG k hk rY KV;exact hnk (h3 ▸ I.cl S oS TS wG e h1 h2)
  by_cases rX:i=S
  ·subst rX;have dC:done L C:=by
    obtain⟨e,h1,h2,h3⟩:=hfl o ho C hC hCS Nq;exact h3 ▸ jC e h1 h2
   obtain⟨v1,v2⟩:=hvs C hC hCS dC;have vC:=v2 (I.no _ MS);obtain⟨b1,b2⟩:=I.box hnd;refine P9 o ho a x (vs C) b1 b2 (dD v1) vC (fun j u hu hj=>dD (by rw [I.kp j hj]; exact hu)) _ (fun x' q1 q2 q3 q4=>⟨cl',no',I.df,I.sz,I.kp,⟨⟨fun k hk hne=>(q1.1 k (aZ hk b1.size) hne).trans (I.Pp.1.1 k hk hne),aN b1.size q1.2⟩,fun B hB=>q2 B W hB (I.Pp.2 B hB)⟩,⟨vs,fun k hk rY hdn=>?_⟩,fun hn=>absurd ((eT qD _).2 (bK rfl)) hn,fun _=>⟨vs C,v1,q3,?_⟩⟩)
   ·obtain⟨w1,w2⟩:=hvs k hk rY (dd rY hdn);refine⟨w1,fun hnl=>?_⟩;rcases hlast k hk rY with h5|⟨h5,h6,h7⟩
    ·exact q4 k _ hk rY h5 (w2 (I.no _ h5))
    ·exfalso;obtain⟨e,g1,g2,g3⟩:=hfl o ho (last k) h5 h6 h7;exact hnl (du (g3 ▸ jC e g1 g2))
   ·exact q4 C _ hC hCS MS vC
  ·have seen:Jz i N S d last V base o a x:=⟨fun j u hj hu=>dD (by rw [I.kp j hj]; exact hu),fun e he hb hS' hl=>by
    obtain⟨h1,h2⟩:=hvs e.on (by have:=hon e he hb; omega) hS' (jC e he hb);rw [dD h1];refine h2 ?_;rcases hl with hl|hl
    ·rw [hl]; exact hnd
    ·exact I.no _ hl⟩
   refine hop i o GV rX ho a x (fun hfi=>I.box (early i GV rX hfi hnd)) seen _ (fun v x' hpv hb=>?_);have self:(a.put (aA (d i)) v).tmps[d i]?=aA v:=by
    have h5:d i<a.tmps.size:=by rw [I.sz]; exact hs i GV rX
    simp [Act.put,h5]
   have keep:∀ k,k<N->k≠S->k≠i->(a.put (aA (d i)) v).tmps[d k]?=a.tmps[d k]?:=fun k hk rY hki=>get_put _ _ _ _ (fun e=>hki (hinj _ _ hk GV rY rX e));refine⟨cl',no',I.df,by rw [size_put]; exact I.sz,fun j hj=>?_,I.Pp.grow hbl hb,⟨fun k=>if k=i then v else vs k,fun k hk rY hdn=>?_⟩,fun h2=>?_,fun h1=>?_⟩
   ·rw [get_put _ _ _ _ (fun e=>hj i GV e.symm)];exact I.kp j hj
   ·by_cases e:k=i
    ·subst e;simp only [if_true];exact⟨self,fun _=>hpv⟩
    ·simp only [if_neg e];obtain⟨h3,h4⟩:=hvs k hk rY (dd e hdn);exact⟨by rw [keep k hk rY e]; exact h3,fun h6=>hV k _ _ _ hk (h4 (fun h=>h6 (du h))) hb⟩
   ·obtain⟨b1,b2⟩:=I.box (fun h=>h2 (du h));exact⟨b1.trans (hb.mono b1.size),b2.on hb⟩
   ·have h2:=dd (Ne.symm rX) h1;obtain⟨u,h6,h8,h9⟩:=I.fin h2;obtain⟨ec,k4,k5,k6⟩:=hfl oS wG C hC hCS Nq;have dC:=I.cl S oS h2 wG ec k4 k5;rw [k6] at dC;have eC:C≠i:=fun e=>hnd (e ▸ dC);exact⟨u,by rw [keep C hC hCS eC]; exact h6,h8.on hb,hV C _ _ _ hC h9 hb⟩
 ·intro L a x I hd;have dS:=hd S (by omega);obtain⟨v,h2,h4,h5⟩:=I.fin dS;obtain⟨vs,hvs⟩:=I.val;exact hend a x v I.df I.sz I.kp h2 h4 h5 I.Pp ⟨vs,fun i hi rX=>by
   obtain⟨k1,k2⟩:=hvs i hi rX (hd i (by omega));exact⟨k1,fun hl=>k2 (I.no _ hl)⟩⟩
end Rg
namespace Fl
open Go.RowKit Go.Sort Rw YtghlpefopidlaaaGreat.Nm Pr Bk Av
theorem IU {W:aB} {b:Nat} {z0 z1 z2 z3 z4 z5 z6:aI} (h:cZ W b #[z0,z1,z2,z3,z4,z5,z6] 43) (a0 a1 a2 a3 a4:Int) (o5:Option bD) (n5 c5:Nat) (o6:Option bD) (n6 c6:Nat) :
  (Instr.storeAt 43 (aD (aA ⟨b,0,aj⟩)) (bf #[ah U a0,ah U a1,ah U a2,ah U a3,ah U a4,J o5 n5 c5,J o6 n6 c6])).run aF W=.ok () (wP W b (ah U a0) (ah U a1) (ah U a2) (ah U a3) (ah U a4) (J o5 n5 c5) (J o6 n6 c6)):=by
 obtain⟨x0,x1,x2,x3,x4,x5,x6⟩:=h.Ai;obtain⟨f0,f1,f2,f3,f4,f5,f6⟩:=h.Pb;simp [go_sem,x0,x1,x2,x3,x4,x5,x6,f0,f1,f2,f3,f4,f5,f6]
theorem FR (w:aB) (b:Nat) (a0 a1 a2 a3 a4 a5 a6:aI):But b w (wP w b a0 a1 a2 a3 a4 a5 a6) :=
 (((dF _ b _ _).trans (dF _ b _ _)).trans ((dF _ b _ _).trans (dF _ b _ _))).trans (((dF _ b _ _).trans (dF _ b _ _)).trans (dF _ b _ _))
theorem xI {w W:aB} {B b:Nat} (h:Below B w W) (hb:B<=b) (a0 a1 a2 a3 a4 a5 a6:aI):Below B w (wP W b a0 a1 a2 a3 a4 a5 a6) :=
 ((((((h.setCell (p:=⟨b,0,aj⟩) hb a0).setCell (p:=⟨b,1,aj⟩) hb a1).setCell (p:=⟨b,2,aj⟩) hb a2).setCell (p:=⟨b,3,aj⟩) hb a3).setCell (p:=⟨b,4,aj⟩) hb a4).setCell (p:=⟨b,5,aj⟩) hb a5).setCell (p:=⟨b,6,aj⟩) hb a6
def zZ (B:Nat) (b1 _b2:Nat) (y1 y2 y3 y4:Int) (po:Option bD) (pn pc:Nat) (_y6:Int) (_y7:Bool) (p:List C5) (i:Nat) (v:aI) (x:aB):Prop :=
 match i with
 | 0=>v=aD (aA ⟨b1,0,aj⟩)
 | 1=>v=bf #[ah U y1,ah U y2]
 | 2=>v=aD (aA ⟨b1,2,aj⟩)
 | 3=>v=bf #[ah U y3,ah U y4]
 | 4=>v=aD (aA ⟨b1,4,aj⟩)
 | 5=>v=J po pn pc
 | 6=>∃ s:Sl,v=dH s/\fV x B (dH s) p
 | 7=>∃ s:Sl,v=bf #[ah U 3,ah U y1,ah U y2,ah U y3,ah U y4,dH s,J aj 0 0]/\fV x B (dH s) p
 | _=>True
noncomputable def JB:Code:=((Tryz.f115.body.bind (eu 1)).getD .skip)
theorem FT (B:Nat) (b1 b2:Nat) (y1 y2 y3 y4:Int) (po:Option bD) (pn pc:Nat) (y6:Int) (y7:Bool) (p:List C5) (i:Nat) (v:aI) (x x':aB) (h:zZ B b1 b2 y1 y2 y3 y4 po pn pc y6 y7 p i v x) (hb:Below x.heap.size x x'):zZ B b1 b2 y1 y2 y3 y4 po pn pc y6 y7 p i v x':=by
 by_cases hi:i<8
 ·rcases (by omega:i=0\/i=1\/i=2\/i=3\/i=4\/i=5\/i=6\/i=7) with rfl|rfl|rfl|rfl|rfl|rfl|rfl|rfl
  ·exact h
  ·exact h
  ·exact h
  ·exact h
  ·exact h
  ·exact h
  ·obtain⟨s,h1,h2⟩:=h; exact⟨s,h1,Bk.dw h2 hb⟩
  ·obtain⟨s,h1,h2⟩:=h; exact⟨s,h1,Bk.dw h2 hb⟩
 ·unfold zZ
  split <;> first | omega | trivial
theorem QI (Q:Exit->Act->aB->Prop) (W:aB) (b1 b2:Nat) (y1 y2 y3 y4:Int) (po:Option bD) (pn pc:Nat) (y6:Int) (y7:Bool) (p:List C5) (u0 u3 u4 u5 u6 u7 u8 u9 u10:aI)
  (h1:cZ W b1 #[ah U y1,ah U y2,ah U y3,ah U y4,J po pn pc,ah U y6,aO y7] 67) (h2:cZ W b2 #[ah U 0,ah U 0,ah U 0,ah U 0,ah U 0,J aj 0 0,J aj 0 0] 43) (r5:fI W (J po pn pc) p) (l5:p.length<=900)
  (hQ:∀ (x:aB) (v3 v4 v5 v6 v7 v8 v9 v10:aI) (q1:Option bD) (q2 q3:Nat),cZ x b2 #[ah U 3,ah U y1,ah U y2,ah U y3,ah U y4,J q1 q2 q3,J aj 0 0] 43->fV x W.heap.size (J q1 q2 q3) p->(∀ B,B<=b2->Below B W x)->Q .normal ⟨(u0::aD (aA ⟨b1,0,aj⟩)::aD (aA ⟨b2,0,aj⟩)::v3::v4::v5::v6::v7::v8::v9::v10::[]).toArray,[]⟩ x) :
  Code.wp aF JB Q ⟨(u0::aD (aA ⟨b1,0,aj⟩)::aD (aA ⟨b2,0,aj⟩)::u3::u4::u5::u6::u7::u8::u9::u10::[]).toArray,[]⟩ W:=by
 have HQ:=O hQ;have H1:=O h1;have H2:=O h2;have R5:=O r5;have L5:=O l5;clear hQ h1 h2 r5 l5;have mE:=FT W.heap.size b1 b2 y1 y2 y3 y4 po pn pc y6 y7 p;unfold JB
 conv=>arg 2; whnf
 have nd:∀ j,(j<3\/11<=j)->∀ i,i<8->(fun i=>3+i) i≠j:=by
  intro j hj i hi h;simp only at h;omega
 refine Rg.gX 9 8 (fun i=>3+i) (fun _=>8) (zZ W.heap.size b1 b2 y1 y2 y3 y4 po pn pc y6 y7 p) (by kernel_rfl) (by kernel_rfl) rfl (by decide) (fun i j _ _ h=>by have h2:3+i=3+j:=h; omega) (fun i hi=>by show 3+i<11; omega) ?_ (fun _=>Rg.kK 14 (by kernel_rfl)) ?_ ?_
 ·intro i o hi ho a x D hnd hc hD hb seen K hK;clear HQ;rcases (by omega:i=0\/i=1\/i=2\/i=3\/i=4\/i=5\/i=6\/i=7) with rfl|rfl|rfl|rfl|rfl|rfl|rfl|rfl
  ·cases ho;have e1:a.eval (aR 1)=aD (aA ⟨b1,0,aj⟩):=seen.kp 1 _ (nd 1 (by omega)) rfl;exact Rg.cO rfl rfl (Rg.dR a.eval _ 67 (aR 1) 0 rfl (by rw [e1]; simp [go_sem])) (hK _ _ rfl (aG _ _) fun _ _ _ _ _ _ _ h=>h)
  ·cases ho;have e3:a.eval (aR 3)=aD (aA ⟨b1,0,aj⟩):=seen.at_ ⟨0,.data⟩ (by simp) rfl (aP (by decide));have y1:=(H1.out.on hb).cell 1;have y0:=(H1.out.on hb).cell 0;simp only [ay,ak,au] at y0 y1;exact Rg.cO rfl rfl (Rg.dX a.eval _ 23 (aR 3) rfl (by rw [e3]; simp [go_sem,y0,y1])) (hK _ _ rfl (aG _ _) fun _ _ _ _ _ _ _ h=>h)
  ·cases ho;have e1:a.eval (aR 1)=aD (aA ⟨b1,0,aj⟩):=seen.kp 1 _ (nd 1 (by omega)) rfl;exact Rg.cO rfl rfl (Rg.dR a.eval _ 67 (aR 1) 1 rfl (by rw [e1]; simp [go_sem])) (hK _ _ rfl (aG _ _) fun _ _ _ _ _ _ _ h=>h)
  ·cases ho;have e5:a.eval (aR 5)=aD (aA ⟨b1,2,aj⟩):=seen.at_ ⟨2,.data⟩ (by simp) rfl (aP (by decide));have y2:=(H1.out.on hb).cell 2;have y3:=(H1.out.on hb).cell 3;simp only [ay,ak,au] at y2 y3;exact Rg.cO rfl rfl (Rg.dX a.eval _ 23 (aR 5) rfl (by rw [e5]; simp [go_sem,y2,y3])) (hK _ _ rfl (aG _ _) fun _ _ _ _ _ _ _ h=>h)
  ·cases ho;have e1:a.eval (aR 1)=aD (aA ⟨b1,0,aj⟩):=seen.kp 1 _ (nd 1 (by omega)) rfl;exact Rg.cO rfl rfl (Rg.dR a.eval _ 67 (aR 1) 2 rfl (by rw [e1]; simp [go_sem])) (hK _ _ rfl (aG _ _) fun _ _ _ _ _ _ _ h=>h)
  ·cases ho;have e7:a.eval (aR 7)=aD (aA ⟨b1,4,aj⟩):=seen.at_ ⟨4,.data⟩ (by simp) rfl (aP (by decide));have y4:=(H1.out.on hb).cell 4;simp only [ay,ak,au] at y4;exact Rg.cO rfl rfl (Rg.dX a.eval _ 34 (aR 7) rfl (by rw [e7]; simp [go_sem,y4])) (hK _ _ rfl (aG _ _) fun _ _ _ _ _ _ _ h=>h)
  ·cases ho;have e8:a.eval (aR 8)=J po pn pc:=seen.at_ ⟨5,.data⟩ (by simp) rfl (aP (by decide));exact Rg.fO rfl rfl (Rw.gq a.eval _ (aR 8) 34 44 rfl e8 rfl _ (fu Tryz.func44 rfl rfl _ _)) (iW (po,pn,pc) p x (R5.out.on hb) L5.out) fun e w1 h=>by
    obtain⟨⟨s,rfl,h1⟩,h3⟩:=h;exact⟨_,rfl,hK _ _ ⟨s,rfl,dn h1 hb.size⟩ (h3.mono hb.size) fun j u hj _ _ _ hne h=>mE j u _ _ h h3⟩
  ·cases ho;have e4:a.eval (aR 4)=bf #[ah U y1,ah U y2]:=seen.at_ ⟨1,.data⟩ (by simp) rfl (aP (by decide));have e6:a.eval (aR 6)=bf #[ah U y3,ah U y4]:=seen.at_ ⟨3,.data⟩ (by simp) rfl (aP (by decide));have E9:=seen.at_ ⟨6,.data⟩ (by simp) rfl (aP (by decide));obtain⟨s,q0,q1⟩:=E9;have q0:a.eval (aR 9)=dH s:=q0;exact Rg.cO rfl rfl (Rg.iV a.eval _ 43 #[(0,.const (ah U 3)),(1,aR 4),(2,aR 6),(3,aR 9)] rfl (by simp only [List.map_toArray,List.map_cons,List.map_nil,e4,e6,q0]; rfl) (v:=bf #[ah U 3,ah U y1,ah U y2,ah U y3,ah U y4,dH s,J aj 0 0]) (by simp [go_sem])) (hK _ _ ⟨s,rfl,q1⟩ (aG _ _) fun _ _ _ _ _ _ _ h=>h)
 ·intro kk o h1 h2 ho;omega
 ·intro a w' df sz kp ⟨vs,hv⟩ hb;have sz':a.tmps.size=11:=sz;have g2:a.tmps[2]?=aA (aD (aA ⟨b2,0,aj⟩)):=(kp 2 (nd 2 (by omega))).trans rfl;obtain⟨⟨q1,q2,q3⟩,hs,ho⟩:=(hv 7 (by omega)).2 (by decide);have g10:a.tmps[10]?=aA (bf #[ah U 3,ah U y1,ah U y2,ah U y3,ah U y4,J q1 q2 q3,J aj 0 0]):=((hv 7 (by omega)).1).trans (congrArg aA hs);have hB:=H2.out.on hb;have hlt:=H2.out.lt;show Rg.fT _ _ _ 1 8 a w';simp only [Rg.fT];refine Rg.fM 43 (aR 2) (aR 10) rfl rfl rfl rfl (Rg.dD g2) (Rg.dD g10) (w':=wP w' b2 (ah U 3) (ah U y1) (ah U y2) (ah U y3) (ah U y4) (J q1 q2 q3) (J aj 0 0)) (IU hB _ _ _ _ _ _ _ _ _ _ _) ?_;have hbx:=Bu hB (ah U 3) (ah U y1) (ah U y2) (ah U y3) (ah U y4) (J q1 q2 q3) (J aj 0 0);have hbt:=FR w' b2 (ah U 3) (ah U y1) (ah U y2) (ah U y3) (ah U y4) (J q1 q2 q3) (J aj 0 0);have uY:∀ j,(j<3\/11<=j)->(a).tmps[j]?=(u0::aD (aA ⟨b1,0,aj⟩)::aD (aA ⟨b2,0,aj⟩)::u3::u4::u5::u6::u7::u8::u9::u10::[])[j]?:=fun j hj=>(kp j (nd j (by omega))).trans ay;obtain⟨mid,hmid,hfr⟩:=Rg.gL (a:=a) 3 8 df (by simp [sz']) (by simp) uY;show Q .normal (a) _;rw [hfr]
  match mid,hmid with
  | [v3,v4,v5,v6,v7,v8,v9,v10],_ =>
   exact HQ.out _ _ _ _ _ _ _ _ _ q1 q2 q3 hbx (hbt.own ho hB (by decide)) (fun B hBl=>xI (hb.mono (bL (Nat.lt_of_le_of_lt hBl hlt))) hBl _ _ _ _ _ _ _)
theorem uw (z:iw) (p:List C5) (w:aB) (hp:fI w (dH z.2.2.2.2.1) p) (hl:p.length<=900) :
  aX aF 115 #[rV z] w fun e w'=>(∃ s:Sl,e=aH (bf #[ah U 3,ah U z.1,ah U z.2.1,ah U z.2.2.1,ah U z.2.2.2.1,dH s,J aj 0 0])/\fV w' w.heap.size (dH s) p)/\Below w.heap.size w w':=by
 obtain⟨y1,y2,y3,y4,⟨po,pn,pc⟩,y6,y7⟩:=z;obtain⟨h0,h1,h2⟩:=gP w #[ah U y1,ah U y2,ah U y3,ah U y4,J po pn pc,ah U y6,aO y7] #[ah U 0,ah U 0,ah U 0,ah U 0,ah U 0,J aj 0 0,J aj 0 0] 67 43;have GB:=O h0;have X1:=O h1;have X2:=O h2;have HP:=O (hp.on h0);clear h0 h1 h2 hp;show aX aF 115 #[bf #[ah U y1,ah U y2,ah U y3,ah U y4,J po pn pc,ah U y6,aO y7]] w _;go_enter Tryz.func115,Tryz.ntmps115;go_upto_region 1 with fail;generalize (w.alloc (aL #[ah U y1,ah U y2,ah U y3,ah U y4,J po pn pc,ah U y6,aO y7] 67)).alloc (aL #[ah U 0,ah U 0,ah U 0,ah U 0,ah U 0,J aj 0 0,J aj 0 0] 43)=W at *;refine QI _ W w.heap.size (w.heap.size+1) y1 y2 y3 y4 po pn pc y6 y7 p _ _ _ _ _ _ _ _ _ X1.out X2.out HP.out hl ?_;intro x v3 v4 v5 v6 v7 v8 v9 v10 q1 q2 q3 hbx ho hbl;have FB:=O hbx;have OO:=O (dn ho GB.out.size);have G2:=O (GB.out.trans (hbl w.heap.size (by omega)));clear hbx ho hbl GB X1 X2 HP;go_wp2_with fail;obtain⟨v0,v1,v2,v3,v4,v5,v6⟩:=FB.out.Ai;refine bodyPost_ret (v:=bf #[ah U 3,ah U y1,ah U y2,ah U y3,ah U y4,J q1 q2 q3,J aj 0 0]) (by simp [results,Tryz.results115,go_sem,v0,v1,v2,v3,v4,v5,v6]) rfl ?_;exact⟨⟨(q1,q2,q3),rfl,OO.out⟩,G2.out⟩
theorem iD.app {W W':aB} {B:Nat} {v:aI} {l:List lV} {b:Br} {nv av sv ev ov:Sl} (ho:yL W B v l) (gr:W.grownBy W' v.ownBlock) (h:iD W b nv av sv ev ov):iD W' b nv av sv ev ov:=by
 rcases dY ho with⟨h1,_⟩|⟨g,c,cur,h1,_,h2,_⟩
 ·rw [h1] at gr;exact h.on ((aG _ _).grown gr (aV _) (fun j hj=>by cases hj))
 ·rw [h1] at gr;exact h.lI (o9 (b:=g) gr) h2 (by decide) (by decide) (by decide) (by decide) (by decide) (by decide)
end Fl
end Go.Proofs.YtghlpefopidlaaaGreat
