/-
  Take of package subs. Conditions as told.
-/
import Derived.Test.YtghlpefopidlaaaGreatBQ031
import Derived.Test.YtghlpefopidlaaaGreatBQ032
import Derived.Test.YtghlpefopidlaaaGreatBQ033
import Derived.Test.YtghlpefopidlaaaGreatBQ037
set_option maxRecDepth 100000
set_option maxHeartbeats 64000000
open _root_.Bool renaming false->aj,true->aK
open _root_.Go renaming World->ak,bodyPost_ret->aG,Value->aN
open Go.Ending renaming returned->aF
open Go.IntKind renaming i64->aA
open Go.Lib renaming hid->J
open Go.Proofs.Tryz renaming results117->aB,prog->aP
open Go.Value renaming slice->D,int->ay,bool->aM
open _root_.List renaming getElem?_cons_zero->K,getElem?_cons_succ->L,getElem?_eq_some_iff->O,getElem?_toArray->Q,mem_iff_getElem?->U,mem_append->aC,getElem?_eq_getElem->aD,getElem?_set_self->aH,length_map->aJ,getElem_mem->aO
open _root_.Option renaming none->ah,some->au
open Option.some renaming inj->aI
namespace Go.Proofs.YtghlpefopidlaaaGreat
namespace Sb
open Go.RowKit Go.Sort Rw YtghlpefopidlaaaGreat.Nm Pr Bk Av Rl
theorem ql {α:Type} (l:List α) (k:Nat):(cutAt l k).Sublist l:=by
 unfold cutAt
 conv=>rhs; rw [<- List.take_append_drop k l]
 exact (List.Sublist.refl _).append (List.drop_sublist_drop_left l (Nat.le_succ k))
theorem qc {α:Type} {l:List α} {k:Nat} {x:α} (h:x∈cutAt l k):x∈l:=(ql l k).subset h
def wF (b:Br) (t s:dV) (f:Int):Br×List En×Bool:=match zk b.ent t s with
 | none=>(b,[],aj)
 | some e=>if e.from_≠f then (b,[],aj) else if e.up=aj then ({ b with ent:=cutAt b.ent (dY (b.ent.map dM) (t,s)) },[],aj) else
  ({ b with ent:=(cutAt b.ent (dY (b.ent.map dM) (t,s))).take (gL (cutAt b.ent (dY (b.ent.map dM) (t,s))) t)++(fQ (kK (cutAt b.ent (dY (b.ent.map dM) (t,s))) t) (kK (cutAt b.ent (dY (b.ent.map dM) (t,s))) t).length).1++(cutAt b.ent (dY (b.ent.map dM) (t,s))).drop (gL (cutAt b.ent (dY (b.ent.map dM) (t,s))) t+(kK (cutAt b.ent (dY (b.ent.map dM) (t,s))) t).length) },(fQ (kK (cutAt b.ent (dY (b.ent.map dM) (t,s))) t) (kK (cutAt b.ent (dY (b.ent.map dM) (t,s))) t).length).2,aK)
theorem QD {m:List En} (hr:gK m) (t:dV):fP t m m.length=(m.take (gL m t)++(fQ (kK m t) (kK m t).length).1++m.drop (gL m t+(kK m t).length),(fQ (kK m t) (kK m t).length).2):=by
 obtain⟨c,h1,h0,h2,h3,h4⟩:=C8 hr t;have h:=Fh h2 h3 h4;rw [<- h1] at h;rw [h];have e:m.drop (gL m t+(kK m t).length)=c:=by
  conv=>lhs; arg 2; rw [h1]
  rw [List.drop_left' (by rw [List.length_append,h0])]
 rw [e]
theorem pG {b:Br} (hr:gK b.ent) {t s:dV} {f:Int}:wF b t s f=takeB b t s f:=by
 unfold wF takeB;have ft:=oh hr t s;rw [ft];cases ht:iF b.ent t s with
 | false =>
  rw [Di ht];simp only [Bool.false_eq_true,if_false];cases b.ent[(-1:Int).toNat]? <;> rfl
 | true =>
  obtain⟨e,h1,h2,h3⟩:=qh ht;rw [h3];simp only [if_true];rw [Int.toNat_natCast,h1];simp only;rw [if_neg (show ¬ ((dY (b.ent.map dM) (t,s):Int)=-1) by omega)];have hr2:gK (cutAt b.ent (dY (b.ent.map dM) (t,s))):=hr.sublist (ql _ _);generalize cutAt b.ent (dY (b.ent.map dM) (t,s))=m at *;rw [QD hr2]
theorem nO.less {w0 wr:ak} {B B':Nat} {x:jl} {e:En} (h:nO w0 B wr x e) (hB:B'<=B):nO w0 B' wr x e:=⟨h.1,h.2.1,h.2.2.1,h.2.2.2.1,h.2.2.2.2.imp id fun h=>dK h hB⟩
def Uz (w:ak) (P R:Prop) (r:Br×List En×Bool) (e:Ending) (w':ak):Prop:=(∃ (nv av sv ev ov uv:Sl) (lu:List jl),e=aF (.tuple #[mg r.1.me nv av sv ev ov,dQ uv,aM r.2.2])/\ny w' r.1 nv av sv ev ov/\mP w' (dQ uv) lu/\eT (kP w') lu r.2.1/\(P->jm w' nv r.1.near)/\(R\/r.2.2=aK->jo w' r.1 nv av sv ev ov)/\jM w' w.heap.size (dQ uv) lu/\∃ V:ak,eT (nO (vw V) w.heap.size w') lu r.2.1)/\Below w.heap.size w w'
theorem JH (b:Br) (nv av sv ev ov:Sl) (t s:dV) (f:Int) (w:ak) (h:ny w b nv av sv ev ov) (hf:xR b) (hp:mq b) (hr:gK b.ent) (hok:∀ e∈b.ent,dN e.p) :
  Calls aP 117 #[mg b.me nv av sv ev ov,oK t,oK s,ay aA f] w (Uz w (jm w nv b.near) (jo w b nv av sv ev ov) (takeB b t s f)):=by
 obtain⟨no,nn,nc⟩:=nv;obtain⟨ao,an,ac⟩:=av;obtain⟨so,sn,sc⟩:=sv;obtain⟨eo,en,ec⟩:=ev;obtain⟨oo,lK,oc⟩:=ov;obtain⟨c,d⟩:=t;obtain⟨g0,h0⟩:=s;obtain⟨n0,X,Y,Z,V⟩:=CW w #[ay aA b.me,D no nn nc,D ao an ac,D so sn sc,D eo en ec,D oo lK oc] #[ay aA c,ay aA d] #[ay aA g0,ay aA h0] #[ay aA 0,D ah 0 0,D ah 0 0,D ah 0 0,D ah 0 0,D ah 0 0] 30 23 23 30;have BB:=J n0;have X1:=J X;have X2:=J Y;have X4:=J V;have HH:=J h;have HF:=J hf;have HP:=J hp;have HR:=J hr;have OK:=J hok;have x4:=X.cell 4;simp only [Q,K,L] at x4;obtain⟨y0,y1⟩:=Y.cs2;obtain⟨z0,z1⟩:=Z.cs2;obtain⟨Zn,hs1,hs2⟩:=h.ent;have LS1:=J (hs1.on n0);have LS2:=J (hs2.mono fun _ _ q=>q.on n0);have PL:=J (ze (eo,en,ec) Zn b.ent (c,d) (g0,h0) _ LS1.out LS2.out hr (by rw [hs2.len]; have:=hf.ent; omega));have hn:=gZ hs1;have HN:=J hn;obtain⟨k,hk⟩:∃ k,dY (b.ent.map dM) ((c,d),(g0,h0))=k:=⟨_,rfl⟩;obtain⟨th,hth⟩:∃ k,iF b.ent (c,d) (g0,h0)=k:=⟨_,rfl⟩;rw [hk,hth] at PL;have HK:=J hk;clear n0 X Y Z V h hf hp hr hok hs1 hs2 hn hk;go_enter Tryz.func117,Tryz.ntmps117;go_wp2_with fail;generalize (((w.alloc (.cells #[ay aA b.me,D no nn nc,D ao an ac,D so sn sc,D eo en ec,D oo lK oc] 30)).alloc (.cells #[ay aA c,ay aA d] 23)).alloc (.cells #[ay aA g0,ay aA h0] 23)).alloc (.cells #[ay aA 0,D ah 0 0,D ah 0 0,D ah 0 0,D ah 0 0,D ah 0 0] 30)=W at *;refine PL.out.mono ?_;rintro e1 w1 ⟨rfl,hb⟩;have BW:=J (BB.out.trans (hb.mono BB.out.size));have T1:=J (X1.out.on hb);have T2:=J (X2.out.on hb);have T4:=J (X4.out.on hb);have HB:=J hb;clear x4 y0 y1 z0 z1 PL hb X1 X2 X4;cases th
 ·have LQ:=J (show takeB b (c,d) (g0,h0) f=(b,[],aj) from by
   rw [<- pG HR.out];unfold wF;rw [Di hth])
  have Q1:=T1.out;have Q3:=T4.out;obtain⟨x0,x1,x2,x3,x4,x5⟩:=Q1.ig;obtain⟨z0,z1,z2,z3,z4,z5⟩:=Q3.ig;obtain⟨Ko,Kq,Kr,Kt,Ku,Kv⟩:=Q3.oJ;have Kw:=Q3.lt;have FB:=J (dX Q3 (ay aA b.me) (D no nn nc) (D ao an ac) (D so sn sc) (D eo en ec) (D oo lK oc));have FL:=J (dI (b:=w.heap.size+1+1+1) BW.out (by omega) (ay aA b.me) (D no nn nc) (D ao an ac) (D so sn sc) (D eo en ec) (D oo lK oc));clear Q1 Q3;go_wp2_with fail;clear z0 z1 z2 z3 z4 z5;obtain⟨v0,v1,v2,v3,v4,v5⟩:=FB.out.ig;refine aG (v:=.tuple #[.agg #[ay aA b.me,D no nn nc,D ao an ac,D so sn sc,D eo en ec,D oo lK oc],D ah 0 0,aM aj]) (by simp [results,aB,go_sem,v0,v1,v2,v3,v4,v5]) rfl ?_;rw [LQ.out];exact⟨⟨(no,nn,nc),(ao,an,ac),(so,sn,sc),(eo,en,ec),(oo,lK,oc),(ah,0,0),[],rfl,HH.out.on FL.out,jN _,.nil,fun h=>h.on FL.out,fun h=>(h.resolve_right (by simp)).on FL.out,iP _ _,w,.nil⟩,FL.out⟩
 ·obtain⟨e,he,hke,hfe⟩:=qh hth;rw [HK.out] at he;have hkm:=(O.1 he).1;have hkn:k<en:=by rw [<- HN.out,LS2.out.len]; exact hkm
  obtain⟨y,hy,hx⟩:=LS2.out.at k e he;obtain⟨p,ix,px⟩:=TT LS1.out rfl HN.out hy;obtain⟨i0,i1,i2,i3,i4,i5,i6⟩:=px w1 HB.out;obtain⟨y1,y2,y3,y4,⟨yo,yn,yc⟩,y6,y7⟩:=y;simp only at i0 i1 i2 i3 i4 i5 i6;have FE:=J hfe;have EF:=J (show e.from_=y6 from hx.2.2.1.symm);have EU:=J (show e.up=y7 from hx.2.2.2.1.symm);have x4:=T1.out.cell 4;simp only [Q,K,L] at x4;clear px hy hx he hke hfe hth i0 i1 i2 i3 i4;by_cases VI:y6=f
  ·have hne:(y6 != f)=aj:=by simp [VI]
   have YF:=J VI;have T1_:=T1.out;clear VI x4;obtain⟨x0,x1,x2,x3,x4,x5⟩:=T1_.ig;clear T1_;go_wp2_with fail;refine (lg b (no,nn,nc) (ao,an,ac) (so,sn,sc) (eo,en,ec) (oo,lK,oc) w w1 BW.out HH.out HF.out HP.out).mono ?_;rintro e2 w2 ⟨⟨⟨p1,q1,s1⟩,⟨p2,q2,s2⟩,⟨p3,q3,s3⟩,⟨p4,q4,s4⟩,⟨p5,q5,s5⟩,rfl,cp⟩,hb2⟩;clear x0 x1 x2 x3 x4 x5;clear ix i5 i6 hne;have V4:=T4.out.on hb2;obtain⟨z0,z1,z2,z3,z4,z5⟩:=V4.ig;obtain⟨Ko,Kq,Kr,Kt,Ku,Kv⟩:=V4.oJ;have Kw:=V4.lt;have bs:=eF w2 (w.heap.size+1+1+1) (ay aA b.me) (D p1 q1 s1) (D p2 q2 s2) (D p3 q3 s3) (D p4 q4 s4) (D p5 q5 s5);have FB:=J (dX V4 (ay aA b.me) (D p1 q1 s1) (D p2 q2 s2) (D p3 q3 s3) (D p4 q4 s4) (D p5 q5 s5));have FC:=J (cp.but bs V4);have FL:=J (dI (b:=w.heap.size+1+1+1) (BW.out.trans (hb2.mono BW.out.size)) (by omega) (ay aA b.me) (D p1 q1 s1) (D p2 q2 s2) (D p3 q3 s3) (D p4 q4 s4) (D p5 q5 s5));have F2:=J (bs.box (T2.out.on hb2) (by omega));have L1:=J (show w.heap.size+1+1+1<w1.heap.size from T4.out.lt);clear V4 bs cp hb2 T1 T2 T4 HB;go_upto_region 6 with fail;clear z0 z1 z2 z3 z4 z5 Ko Kq Kr Kt Ku Kv Kw;unfold iY at FB FC FL F2;generalize ((((((w2).setCell ⟨w.heap.size+1+1+1,0,ah⟩ (ay aA b.me)).setCell ⟨w.heap.size+1+1+1,1,ah⟩ (D p1 q1 s1)).setCell ⟨w.heap.size+1+1+1,2,ah⟩ (D p2 q2 s2)).setCell ⟨w.heap.size+1+1+1,3,ah⟩ (D p3 q3 s3)).setCell ⟨w.heap.size+1+1+1,4,ah⟩ (D p4 q4 s4)).setCell ⟨w.heap.size+1+1+1,5,ah⟩ (D p5 q5 s5)=w3 at *;obtain⟨le,hle1,hle2⟩:=FC.out.ent;have hq4:le.length=q4:=gZ (Row.dH hle1);have hlm:le.length=b.ent.length:=hle2.len;obtain⟨g,rfl,hBg⟩:∃ g,p4=au ⟨g,0,ah⟩/\w1.heap.size<=g:=o8 hle1 (show 0<q4 by omega);have KQ:=J (show k<q4 by omega);have DE:=J (Qz w1.heap.size g q4 s4 k le w3 hle1 (by omega) (by have:=HF.out.ent; omega));have xL:=J hle1;have HL2:=J hle2;have BG:=J hBg;have N9:=J (show q4<=900 by have:=HF.out.ent; omega);have x4:=FB.out.cell 4;simp only [Q,K,L] at x4;have hw3:IntKind.i64.wrap ((k:Int)+1)=(k:Int)+1:=IntWalk.i64_in _ (by have:=HF.out.ent; omega);clear hle1 hle2 hq4 hlm hBg;go_wp2_with fail;refine DE.out.mono ?_;rintro e4 w4 ⟨rfl,hown,iO,hlow⟩;have hoff:Off (dQ (au ⟨g,0,ah⟩,q4,s4)).ownBlock w3 w4:=⟨fun j hj hne=>iO.1 j hj fun e=>hne (by rw [e]; rfl),iO.2⟩;have TG:=gV xL.out;have CP:=J (FC.out.Qk (ev':=(au ⟨g,0,ah⟩,q4-1,s4)) (el:=cutAt b.ent k) hoff ⟨cutAt le k,hown,(fun {h}=>((h:eT _ le b.ent).take k).append (h.drop (k+1))) (h:=HL2.out.mono fun _ _ q=>q.off hoff TG (by decide))⟩);have G8:=iO.box FB.out (show w.heap.size+1+1+1≠g by have:=BG.out; have:=L1.out; omega);have G2:=iO.box F2.out (show w.heap.size+1≠g by have:=BG.out; have:=L1.out; omega);have BL:=hlow w.heap.size w (by have:=BG.out; have:=L1.out; omega) FL.out;clear x4 hw3;have x4:=G8.cell 4;have Jy:=G8.fr 4;have xlt:=G8.lt;simp only [Q,K,L] at x4;have bs:=dR w4 (w.heap.size+1+1+1) 4 (D (au ⟨g,0,ah⟩) (q4-1) s4);have UA:=J (CP.out.but bs G8);have G25:=J (bs.box G2 (by omega));have RO:=J (BL.setCell (p:=⟨w.heap.size+1+1+1,4,ah⟩) (show w.heap.size<=w.heap.size+1+1+1 by omega) (D (au ⟨g,0,ah⟩) (q4-1) s4));have VJ:=J (show dG (w4.setCell ⟨w.heap.size+1+1+1,4,ah⟩ (D (au ⟨g,0,ah⟩) (q4-1) s4)) (w.heap.size+1+1+1) #[ay aA b.me,D p1 q1 s1,D p2 q2 s2,D p3 q3 s3,D (au ⟨g,0,ah⟩) (q4-1) s4,D p5 q5 s5] 30 by simpa using eu (k:=4) G8 (D (au ⟨g,0,ah⟩) (q4-1) s4));have S5:=J (show w1.heap.size<=(w4.setCell ⟨w.heap.size+1+1+1,4,ah⟩ (D (au ⟨g,0,ah⟩) (q4-1) s4)).heap.size by have:=iO.2; have h2:=FL.out.size; obtain⟨cur,hg⟩:=iD hown; have:=hg.lt; have:=BG.out; simp; omega);clear hown iO hlow hoff TG CP G8 G2 BL bs FB FC FL F2 xL HL2 DE le;go_upto_region 7 with fail;clear x4 Jy xlt;generalize w4.setCell ⟨w.heap.size+1+1+1,4,ah⟩ (D (au ⟨g,0,ah⟩) (q4-1) s4)=w5 at *;obtain⟨n4,hn4⟩:∃ n,n=q4-1:=⟨_,rfl⟩;rw [<- hn4] at VJ UA ⊢;have NN:=J hn4;clear hn4;cases y7
   ·have LQ:=J (show takeB b (c,d) (g0,h0) f=({ b with ent:=cutAt b.ent k },[],aj) from by
     rw [<- pG HR.out];unfold wF;rw [FE.out];simp only;rw [if_neg (by rw [EF.out]; simpa using YF.out),if_pos EU.out,HK.out])
    have G8:=J VJ.out;have BQ:=J RO.out;clear VJ RO S5;generalize w5=wq at *;have Q3:=G8.out;obtain⟨z0,z1,z2,z3,z4,z5⟩:=Q3.ig;obtain⟨Ko,Kq,Kr,Kt,Ku,Kv⟩:=Q3.oJ;have Kw:=Q3.lt;have bs:=eF wq (w.heap.size+1+1+1) (ay aA b.me) (D p1 q1 s1) (D p2 q2 s2) (D p3 q3 s3) (D (au ⟨g,0,ah⟩) n4 s4) (D p5 q5 s5);have FB:=J (dX Q3 (ay aA b.me) (D p1 q1 s1) (D p2 q2 s2) (D p3 q3 s3) (D (au ⟨g,0,ah⟩) n4 s4) (D p5 q5 s5));have FC:=J (UA.out.but bs Q3);have FL:=J (dI (b:=w.heap.size+1+1+1) BQ.out (by omega) (ay aA b.me) (D p1 q1 s1) (D p2 q2 s2) (D p3 q3 s3) (D (au ⟨g,0,ah⟩) n4 s4) (D p5 q5 s5));clear Q3 bs;go_wp2_with fail;clear z0 z1 z2 z3 z4 z5;obtain⟨v0,v1,v2,v3,v4,v5⟩:=FB.out.ig;refine aG (v:=.tuple #[.agg #[ay aA b.me,D p1 q1 s1,D p2 q2 s2,D p3 q3 s3,D (au ⟨g,0,ah⟩) n4 s4,D p5 q5 s5],D ah 0 0,aM aj]) (by simp [results,aB,go_sem,v0,v1,v2,v3,v4,v5]) rfl ?_;rw [LQ.out];exact⟨⟨(p1,q1,s1),(p2,q2,s2),(p3,q3,s3),(au ⟨g,0,ah⟩,n4,s4),(p5,q5,s5),(ah,0,0),[],rfl,FC.out.Vz,jN _,.nil,fun _=>⟨_,FC.out.near⟩,fun _=>⟨_,_,FC.out⟩,iP _ _,w,.nil⟩,FL.out⟩
   ·obtain⟨m,hm⟩:∃ m,cutAt b.ent k=m:=⟨_,rfl⟩;rw [hm] at UA;have RM:=J (show gK m by rw [<- hm]; exact HR.out.sublist (ql _ _));have OM:=J (show ∀ e∈m,dN e.p by rw [<- hm]; exact fun e he=>OK.out e (qc he));have LQ:=J (show takeB b (c,d) (g0,h0) f=({ b with ent:=m.take (gL m (c,d))++(fQ (kK m (c,d)) (kK m (c,d)).length).1++m.drop (gL m (c,d)+(kK m (c,d)).length) },(fQ (kK m (c,d)) (kK m (c,d)).length).2,aK) from by
     rw [<- pG HR.out];unfold wF;rw [FE.out];simp only;rw [if_neg (by rw [EF.out]; simpa using YF.out),if_neg (by rw [EU.out]; simp),HK.out,hm])
    have LM:=J (show m.length=n4 by rw [<- hm]; obtain⟨l,h1,h2⟩:=UA.out.ent; rw [hm,<- h2.len]; exact gZ (Row.dH h1));clear hm;obtain⟨l5,hl1,hl2⟩:=UA.out.ent
    replace hl2:eT (nO (vw w) w1.heap.size w5) l5 m:=hl2
    replace hl1:jM w5 w1.heap.size (D (au ⟨g,0,ah⟩) n4 s4) l5:=hl1
    have hin:eT (kP w5) l5 m:=hl2.mono fun _ _ q=>tu q (vN RO.out);have Un:=qd m (c,d);have h9:=N9.out;have hnn:=NN.out;have hlm:=LM.out;have hll:l5.length=m.length:=hl2.len;have hcap:n4<=s4:=by
     rcases eZ hl1 with⟨h1,_⟩|⟨g',cap',cur,h1,_,_,h4,_⟩
     ·cases h1
     ·obtain⟨_,_,rfl⟩:g=g'/\n4=l5.length/\s4=cap':=by simpa using h1
      omega
    have WW:=J (qQ (au ⟨g,0,ah⟩,n4,s4) l5 m (c,d) w5 (Row.dH hl1) hin RM.out (by omega));have eb:(m.drop (gL m (c,d))).take (kK m (c,d)).length=kK m (c,d):=by
     unfold kK
     conv=>lhs; arg 2; rw [<- List.takeWhile_append_dropWhile (p:=fun e:En=>decide (e.tree=(c,d))) (l:=m.drop (gL m (c,d)))]
     rw [List.take_left]
    have RA:=J (fun (w6:ak) (hb:Below w5.heap.size w5 w6) (ra:Option Addr) (rc:Nat) hra=>Jv (vw w) w1.heap.size g n4 s4 (gL m (c,d)) (kK m (c,d)).length ra rc l5 m w6 (vN (RO.out.trans (hb.mono RO.out.size))) (Nat.zero_le _) (Bk.dL hl1 hb) (hl2.mono fun _ _ q=>q.grow hb) (by omega) (by omega) hra OM.out);rw [eb] at RA;generalize hf5:gL m (c,d)=f5 at *;generalize hb5:kK m (c,d)=bm at *;have HC:=J hcap;have HFK:=J Un;clear hl1 hl2 hin h9 hnn hlm hll Un eb hf5 hb5 hcap;have x4:=VJ.out.cell 4;simp only [Q,K,L] at x4;have y1:=G25.out.cell 1;have y0:=G25.out.cell 0;simp only [Q,K,L] at y0 y1;unfold cutV at WW;simp only at WW;obtain⟨ra,hra⟩:∃ x,(if s4=f5 then (⟨g,0,ah⟩:Addr) else (⟨g,0,ah⟩:Addr).add (f5 * 7))=x:=⟨_,rfl⟩;rw [hra] at WW;have HRA:=J hra;clear hra;go_wp2_with fail;refine WW.out.mono ?_;rintro e6 w6 ⟨rfl,hb⟩;have RB:=RA.out w6 hb (au ra) (s4-f5) (fun hK=>⟨by rw [<- HRA.out,if_neg (by have:=HC.out; have:=HFK.out; have:=LM.out; omega),mD],rfl⟩);have H6:=J hb;have C6:=J (UA.out.grow hb);have G86:=J (VJ.out.on hb);have BL6:=J (RO.out.trans (hb.mono RO.out.size));clear x4 y0 y1 hb WW RA;go_wp2_with fail;refine RB.mono ?_;rintro e7 wq ⟨⟨VE,VF,vo3⟩,rfl,WI⟩;obtain⟨⟨lq,hq1,hq2⟩,⟨lu,hu1,hu2⟩,iO,hlow⟩:=WI;have hoff:Off (dQ (au ⟨g,0,ah⟩,n4,s4)).ownBlock w6 wq:=⟨fun j hj hne=>iO.1 j hj fun e=>hne (by rw [e]; rfl),iO.2⟩;have CQ:=J (C6.out.Qk (ev':=(au ⟨g,0,ah⟩,n4,s4)) hoff ⟨lq,hq1,hq2⟩);have G8:=J (iO.box G86.out (show w.heap.size+1+1+1≠g by have:=BG.out; have:=L1.out; omega));have BQ:=J (hlow w.heap.size w (by have:=BG.out; have:=L1.out; omega) BL6.out);have UP1:=J hu1;have UP2:=J hu2;have L6:=J BL6.out.size;clear hq1 hq2 hu1 hu2 iO hlow hoff RB C6 G86 BL6 VJ UA RO H6;have Q3:=G8.out;obtain⟨z0,z1,z2,z3,z4,z5⟩:=Q3.ig;obtain⟨Ko,Kq,Kr,Kt,Ku,Kv⟩:=Q3.oJ;have Kw:=Q3.lt;have bs:=eF wq (w.heap.size+1+1+1) (ay aA b.me) (D p1 q1 s1) (D p2 q2 s2) (D p3 q3 s3) (D (au ⟨g,0,ah⟩) n4 s4) (D p5 q5 s5);have FB:=J (dX Q3 (ay aA b.me) (D p1 q1 s1) (D p2 q2 s2) (D p3 q3 s3) (D (au ⟨g,0,ah⟩) n4 s4) (D p5 q5 s5));have FC:=J (CQ.out.but bs Q3);have FL:=J (dI (b:=w.heap.size+1+1+1) BQ.out (by omega) (ay aA b.me) (D p1 q1 s1) (D p2 q2 s2) (D p3 q3 s3) (D (au ⟨g,0,ah⟩) n4 s4) (D p5 q5 s5));have FU:=J (bs.own UP1.out Q3 (by decide));have FV:=J (UP2.out.mono fun _ _ q=>nO.but q bs Q3 (by decide));clear Q3 bs;go_wp2_with fail;clear z0 z1 z2 z3 z4 z5;obtain⟨v0,v1,v2,v3,v4,v5⟩:=FB.out.ig;refine aG (v:=.tuple #[.agg #[ay aA b.me,D p1 q1 s1,D p2 q2 s2,D p3 q3 s3,D (au ⟨g,0,ah⟩) n4 s4,D p5 q5 s5],D VE VF vo3,aM aK]) (by simp [results,aB,go_sem,v0,v1,v2,v3,v4,v5]) rfl ?_;rw [LQ.out];exact⟨⟨(p1,q1,s1),(p2,q2,s2),(p3,q3,s3),(au ⟨g,0,ah⟩,n4,s4),(p5,q5,s5),(VE,VF,vo3),lu,rfl,FC.out.Vz,Row.dH FU.out,FV.out.mono fun _ _ q=>tu q (vN FL.out),fun _=>⟨_,FC.out.near⟩,fun _=>⟨_,_,FC.out⟩,dK FU.out L6.out,w,FV.out.mono fun _ _ q=>nO.less q L6.out⟩,FL.out⟩
  ·have hne:(y6 != f)=aK:=by simp [VI]
   have YF:=J VI;clear VI x4;have LQ:=J (show takeB b (c,d) (g0,h0) f=(b,[],aj) from by
    rw [<- pG HR.out];unfold wF;rw [FE.out];simp only;rw [if_pos (by rw [EF.out]; exact YF.out)])
   have Q1:=T1.out;have Q3:=T4.out;obtain⟨x0,x1,x2,x3,x4,x5⟩:=Q1.ig;obtain⟨z0,z1,z2,z3,z4,z5⟩:=Q3.ig;obtain⟨Ko,Kq,Kr,Kt,Ku,Kv⟩:=Q3.oJ;have Kw:=Q3.lt;have FB:=J (dX Q3 (ay aA b.me) (D no nn nc) (D ao an ac) (D so sn sc) (D eo en ec) (D oo lK oc));have FL:=J (dI (b:=w.heap.size+1+1+1) BW.out (by omega) (ay aA b.me) (D no nn nc) (D ao an ac) (D so sn sc) (D eo en ec) (D oo lK oc));clear Q1 Q3;go_wp2_with fail;clear z0 z1 z2 z3 z4 z5;obtain⟨v0,v1,v2,v3,v4,v5⟩:=FB.out.ig;refine aG (v:=.tuple #[.agg #[ay aA b.me,D no nn nc,D ao an ac,D so sn sc,D eo en ec,D oo lK oc],D ah 0 0,aM aj]) (by simp [results,aB,go_sem,v0,v1,v2,v3,v4,v5]) rfl ?_;rw [LQ.out];exact⟨⟨(no,nn,nc),(ao,an,ac),(so,sn,sc),(eo,en,ec),(oo,lK,oc),(ah,0,0),[],rfl,HH.out.on FL.out,jN _,.nil,fun h=>h.on FL.out,fun h=>(h.resolve_right (by simp)).on FL.out,iP _ _,w,.nil⟩,FL.out⟩
theorem pI {m:List En} (hr:gK m) {i j:Nat} {x y:En} (hx:m[i]?=au x) (hy:m[j]?=au y) (h:dM x=dM y):i=j:=by
 rcases Nat.lt_trichotomy i j with q|q|q
 ·have:=(kg x y).2 (sZ hr q hx hy);rw [h,nE] at this;cases this
 ·exact q
 ·have:=(kg y x).2 (sZ hr q hy hx);rw [h,nE] at this;cases this
theorem tJ {m:List En} (hr:gK m) {e:En} (he:e∈m):zk m e.tree e.sub=au e/\iF m e.tree e.sub=aK:=by
 have ft:=oh hr e.tree e.sub;have hk:dM e∈m.map dM:=List.mem_map.2 ⟨e,he,rfl⟩;have ht:iF m e.tree e.sub=aK:=by
  cases h:iF m e.tree e.sub with
  | true=>rfl
  | false =>
   rw [h,if_neg (by simp)] at ft;rcases kF (m.map dM) (dM e) with q|⟨k,q,r⟩
   ·exfalso;obtain⟨j,hj⟩:=U.1 hk;have:∀ l:List (dV×dV),iw l (dM e)=-1->dM e ∉ l:=by
     intro l
     induction l with
     | nil=>intro _ h; simp at h
     | cons a l ih =>
      intro h2 h3;rw [iw] at h2
      split at h2
      ·cases h2
      ·rename_i hne
       split at h2
       ·rename_i h4
        rcases List.mem_cons.1 h3 with h5|h5
        ·exact hne h5.symm
        ·exact ih h4 h5
       ·rename_i h4
        rcases kF l (dM e) with h5|⟨k,h5,_⟩
        ·exact h4 h5
        ·rw [h5] at h2; omega
    exact this _ q hk
   ·rw [show iw (m.map dM) (e.tree,e.sub)=iw (m.map dM) (dM e) from rfl,q] at ft;omega
 obtain⟨e',h1,h2,h3⟩:=qh ht;obtain⟨j,hj⟩:=U.1 he;have hij:=pI hr h1 hj h2;rw [hij,hj] at h1;obtain rfl:=aI h1;exact⟨h3,ht⟩
theorem Fx {m:List En} {t s:dV} (h:∀ e∈m,dM e≠(t,s)):iF m t s=aj:=by
 unfold iF;cases hm:m[dY (m.map dM) (t,s)]? with
 | none=>rfl
 | some e=>exact decide_eq_false (h e (List.mem_of_getElem? hm))
theorem QE {m:List En} (hr:gK m) {j:Nat} {x:En} (hx:m[j]?=au x):∀ y∈cutAt m j,dM y≠dM x:=by
 intro y hy h;unfold cutAt at hy;rcases aC.1 hy with q|q
 ·obtain⟨i,hi⟩:=U.1 q;have hl:=(O.1 hi).1;rw [List.length_take] at hl;rw [List.getElem?_take_of_lt (by omega)] at hi;have:=pI hr hi hx h;omega
 ·obtain⟨i,hi⟩:=U.1 q;rw [List.getElem?_drop] at hi;have:=pI hr hi hx h;omega
theorem JI {c:Br} (hr:gK c.ent) {e1:En} (he:e1∈c.ent) {f:Int} (hf:e1.from_≠f):takeB c e1.tree e1.sub f=(c,[],aj):=by
 rw [<- pG hr];unfold wF;rw [(tJ hr he).1];simp only;rw [if_pos hf]
theorem JJ {c:Br} (hr:gK c.ent) {e1:En} (he:e1∈c.ent) (p:List C5) (f:Int):gY c ⟨e1.tree,e1.sub,p,f,aj⟩=(c,aj):=by
 rw [<- mJ hr];unfold x9;cases fM c.dW e1.tree with
 | none=>rfl
 | some a =>
  simp only;rw [if_pos (tJ hr he).2]
theorem JK {b:Br} (hr:gK b.ent) (e:En) (hn:∀ y∈b.ent,dM y≠dM e) :
  (fM b.dW e.tree=ah/\gY b e=(b,aj))\/(∃ a,fM b.dW e.tree=au a/\e.from_=a.par/\a.par≠-1/\gY b e=(b,aj)) \/
  (∃ a u,fM b.dW e.tree=au a/\(e.from_=-1\/e.from_≠a.par)/\(u=aK->a.par≠-1)/\gY b e=({ b with ent:=eY b.ent (dY (b.ent.map dM) (dM e)) { e with up:=u } },u)/\u=(!(a.par == -1) && !eP b.ent e.tree e.p)):=by
 have ht:iF b.ent e.tree e.sub=aj:=Fx hn;rw [<- mJ hr];unfold x9;cases hf:fM b.dW e.tree with
 | none=>exact Or.inl ⟨rfl,rfl⟩
 | some a =>
  right;simp only;rw [if_neg (by rw [ht]; simp)];by_cases hp:e.from_=a.par/\a.par≠-1
  ·rw [if_pos hp];exact Or.inl ⟨a,rfl,hp.1,hp.2,rfl⟩
  ·rw [if_neg hp];refine Or.inr ⟨a,_,rfl,?_,fun h=>?_,rfl,rfl⟩
   ·by_cases h1:e.from_=a.par
    ·left;rw [h1];exact Decidable.byContradiction fun q=>hp ⟨h1,q⟩
    ·exact Or.inr h1
   ·intro q;rw [q] at h;simp at h
theorem Nc (p:List C5):fG p p=aK:=Bv _
theorem nK (t:dV) (m:List En):∀ (k j:Nat) (z0:En),m[j]?=au z0->∃ z,(fP t m k).1[j]?=au z/\(z=z0\/z=sP z0)
 | 0,_,z0,h=>⟨z0,h,Or.inl rfl⟩
 | k+1,j,z0,h=>by
  obtain⟨z,h1,h2⟩:=nK t m k j z0 h;rw [iC];unfold fI
  split
  ·exact⟨z,h1,h2⟩
  ·rename_i e he
   split
   ·by_cases hk:k=j
    ·subst hk;rw [he] at h1;obtain rfl:=aI h1;have hl:=(O.1 he).1;refine⟨sP e,by rw [aH hl],?_⟩;rcases h2 with rfl|rfl
     ·exact Or.inr rfl
     ·exact Or.inr rfl
    ·exact⟨z,by rw [List.getElem?_set_ne hk]; exact h1,h2⟩
   ·exact⟨z,h1,h2⟩
theorem Fy (t:dV) (m:List En) (k:Nat) {z:En} (hz:z∈(fP t m k).1):∃ z0∈m,z=z0\/z=sP z0:=by
 obtain⟨j,hj⟩:=U.1 hz;have hl:=(O.1 hj).1;rw [(lD t m k).1] at hl;obtain⟨z',h1,h2⟩:=nK t m k j m[j] (aD hl);rw [hj] at h1;obtain rfl:=aI h1;exact⟨_,aO hl,h2⟩
theorem zx (t:dV) (m:List En):∀ k,k<=m.length->∀ y∈(fP t m k).2,y∈(fP t m k).1/\y.up=aK/\∃ z0∈m,y=sP z0/\z0.tree=t/\z0.up=aj/\eP m t z0.p=aj
 | 0,_,y,h=>by simp [fP] at h
 | k+1,hk,y,h=>by
  have ih:=zx t m k (by omega);obtain⟨_,h2,_⟩:=sW t m k (by omega);obtain⟨e,he,heq⟩:=nK t m k k m[k] (aD (by omega));have hmk:m[k]∈m:=aO _;generalize m[k]=z0 at *;rw [iC] at h ⊢;generalize fP t m k=s at *;unfold fI at h ⊢;rw [he] at h ⊢;simp only at h ⊢;by_cases hc:e.tree=t/\e.up=aj/\eP s.1 t e.p=aj
  ·rw [if_pos hc] at h ⊢;obtain⟨c1,c2,c3⟩:=hc;obtain rfl:e=z0:=by
    rcases heq with q|q
    ·exact q
    ·rw [q] at c2; cases c2
   rcases aC.1 h with h|h
   ·obtain⟨g1,g2,g3⟩:=ih y h;refine⟨(Ho he g1).resolve_left (fun q=>?_),g2,g3⟩;rw [q,c2] at g2; cases g2
   ·obtain rfl:=List.mem_singleton.1 h;refine⟨U.2 ⟨k,aH (O.1 he).1⟩,rfl,e,hmk,rfl,c1,c2,?_⟩;cases hq:eP m t e.p with
    | false=>rfl
    | true=>rw [h2 t e.p hq] at c3; cases c3
  ·rw [if_neg hc] at h ⊢;exact ih y h
end Sb
namespace Rl
open Go.RowKit Go.Sort Pu Rw Pr Va
def Nf (a b:List Cn) (w:ak) (e:Ending) (w':ak):Prop:=Below w.heap.size w w'/\(match jg a.length a b with
 | .ok p=>∃ pv,e=aF (.tuple #[pv,aM aK])/\fF w' pv (p.map r5)
 | .error _=>∃ pv,e=aF (.tuple #[pv,aM aj]))
theorem Dm {a b:List Cn} (na:NF a) (nb:NF b):K9 (a++b):=⟨by have:=na.five; have:=nb.five; simp; omega,fun c hc=>by
 rcases aC.1 hc with h|h
 ·exact na.small c h
 ·exact nb.small c h⟩
theorem QF (zf bv:aN) (a b:List Cn) (w:ak) (ha:fF w zf (a.map r5)) (hb:fF w bv (b.map r5)) (na:NF a) (nb:NF b):Calls aP 88 #[zf,bv] w (Nf a b w):=by
 have B0:=J (show Below w.heap.size w (w.alloc (.cells #[zf,bv] 34)) from (Below.refl _ _).alloc (Nat.le_refl _) _);have CT:=J (Fq w.heap.size zf bv (a.map r5) (b.map r5) (w.alloc (.cells #[zf,bv] 34)) (by simp [go_sem]) (by simp [go_sem]) (ha.on B0.out) (hb.on B0.out) (by rw [aJ]; have:=na.five; omega) (by rw [aJ]; have:=nb.five; omega));have SP:=J (Dm na nb);have GD:=J (show ∀ c∈a++b,qz c=aK from fun c hc=>by
  rcases aC.1 hc with h|h
  ·exact na.good c h
  ·exact nb.good c h)
 have MB:=J (IJ (b:=b) na.rise na.five);obtain⟨ao,ac,rfl⟩:=ha.len;obtain⟨bo,bc,rfl⟩:=hb.len;clear ha hb na nb;simp only [aJ] at CT B0 ⊢;obtain⟨res,hres⟩:∃ r,r=jg a.length a b:=⟨_,rfl⟩;have MQ:=J (show ∀ e w',(Below w.heap.size w w'/\(match res with
  | .ok p=>∃ pv,e=aF (.tuple #[pv,aM aK])/\fF w' pv (p.map r5)
  | .error _=>∃ pv,e=aF (.tuple #[pv,aM aj])))->Nf a b w e w' from fun e w' h=>by unfold Nf; rw [<- hres]; exact h)
 rw [<- hres] at MB;generalize hq:Nf a b w=q at *;clear hq hres;go_enter Tryz.func88,Tryz.ntmps88;go_wp2_with fail;refine CT.out.mono ?_;rintro e1 w1 ⟨v1,rfl,ho,hb1⟩;have B1:=J (B0.out.trans (hb1.mono B0.out.size));have MK:=J (M5 v1 (a++b) w1 (by rw [List.map_append]; exact Row.dH ho) SP.out GD.out);clear ho hb1 CT SP GD B0;go_wp2_with fail;refine MK.out.mono ?_;rintro e2 w2 ⟨hb2,h2⟩;have B2:=J (B1.out.trans (hb2.mono B1.out.size));rw [MB.out] at h2;clear hb2 MK B1 MB;rcases res with _|p
 ·obtain⟨bb,rfl⟩:=h2;go_wp2
  go_region
  all_goals simp only [Exit.then]
  all_goals apply_assumption
  all_goals go_wp2
  all_goals exact MQ.out _ _ ⟨B2.out.drew,_,rfl⟩
 ·obtain⟨pv,rfl,hp⟩:=h2;have HP:=J hp;clear hp;go_wp2
  go_region
  all_goals simp only [Exit.then]
  all_goals apply_assumption
  all_goals go_wp2
  all_goals exact MQ.out _ _ ⟨B2.out.drew,_,rfl,HP.out.on (Below.refl _ _).drew⟩
theorem Fz (zf bv:aN) (a b:List Cn) (w:ak) (ha:fF w zf (a.map r5)) (hb:fF w bv (b.map r5)) (na:NF a) (nb:NF b):Calls aP 28 #[zf,bv] w fun e w'=>e=aF (aM (nR a b))/\Below w.heap.size w w':=by
 have T:=J (QF zf bv a b w ha hb na nb);have MM:=J (show nR a b=match jg a.length a b with
  | .ok _=>aK
  | .error _=>aj from rfl)
 unfold Nf at T;generalize nR a b=r at *;generalize jg a.length a b=res at *;clear ha hb na nb;go_enter Tryz.func28,Tryz.ntmps28;go_wp2_with fail;refine T.out.mono ?_;rintro e1 w1 ⟨hb1,h1⟩;have B1:=J hb1;clear hb1 T;rcases res with _|p
 ·obtain⟨pv,rfl⟩:=h1;have M:=J (show r=aj from MM.out);clear MM;go_wp2;go_ret;exact⟨eX M.out.symm,B1.out⟩
 ·obtain⟨pv,rfl,hp⟩:=h1;have M:=J (show r=aK from MM.out);clear MM hp;go_wp2;go_ret;exact⟨eX M.out.symm,B1.out⟩
end Rl
namespace Fl
open Go.RowKit Go.Sort Rw YtghlpefopidlaaaGreat.Nm Pr Bk Av
def QG (W:ak) (B:Nat) (x:mY) (o:Ou):Prop:=x.1=o.Um/\x.2.1=o.kind/\(x.2.2.1,x.2.2.2.1)=o.tree/\(x.2.2.2.2.1,x.2.2.2.2.2.1)=o.id/\iE W B (dQ x.2.2.2.2.2.2.1) o.p/\x.2.2.2.2.2.2.2=(ah,0,0)
theorem QG.ou {W:ak} {B:Nat} {x:mY} {o:Ou} (h:QG W B x o):Ms W x o:=⟨h.1,h.2.1,h.2.2.1,h.2.2.2.1,Row.dH h.2.2.2.2.1,h.2.2.2.2.2⟩
theorem QG.le {W:ak} {B B':Nat} {x:mY} {o:Ou} (h:QG W B x o) (hB:B'<=B):QG W B' x o:=⟨h.1,h.2.1,h.2.2.1,h.2.2.2.1,dK h.2.2.2.2.1 hB,h.2.2.2.2.2⟩
structure mV (W:ak) (B:Nat) (v:aN) (lx:List mY) (l:List Ou):Prop where
 row:EP W B v lx
 all:eT (QG W B) lx l
theorem mV.on {W W':ak} {B:Nat} {v:aN} {lx:List mY} {l:List Ou} (h:mV W B v lx l) (hb:Below W.heap.size W W'):mV W' B v lx l:=⟨Bk.dL h.row hb,h.all.mono fun _ _ q=>⟨q.1,q.2.1,q.2.2.1,q.2.2.2.1,Bk.dL q.2.2.2.2.1 hb,q.2.2.2.2.2⟩⟩
theorem mV.le {W:ak} {B B':Nat} {v:aN} {lx:List mY} {l:List Ou} (h:mV W B v lx l) (hB:B'<=B):mV W B' v lx l:=⟨dK h.row hB,h.all.mono fun _ _ q=>q.le hB⟩
theorem mV.nil (W:ak) (B:Nat):mV W B (D ah 0 0) [] []:=⟨iP _ _,.nil⟩
theorem mV.but {W W':ak} {B g:Nat} {v:aN} {lx:List mY} {l:List Ou} {cs:Array aN} {t:TypeId} (h:mV W B v lx l) (hk:But g W W') (hg:dG W g cs t) (h1:(46 == t)=aj) (h2:(91 == t)=aj):mV W' B v lx l:=⟨hk.own h.row hg h1,h.all.mono fun _ _ q=>⟨q.1,q.2.1,q.2.2.1,q.2.2.2.1,hk.own q.2.2.2.2.1 hg h2,q.2.2.2.2.2⟩⟩
theorem mV.outs {W:ak} {B:Nat} {s:Sl} {lx:List mY} {l:List Ou} (h:mV W B (dQ s) lx l):lM W s l:=⟨lx,Row.dH h.row,h.all.mono fun _ _ q=>q.ou⟩
theorem mV.len {W:ak} {B:Nat} {v:aN} {lx:List mY} {l:List Ou} (h:mV W B v lx l):lx.length=l.length:=h.all.len
theorem mV.more {W W':ak} {B:Nat} {v v':aN} {lx ly:List mY} {l m:List Ou} (h:mV W B v lx l) (gr:W.grownBy W' v.ownBlock) (ho:EP W' B v' (lx++ly)) (hx:eT (QG W B) ly m):mV W' B v' (lx++ly) (l++m) :=
 ⟨ho,eT.append (h.all.mono fun _ _ q=>⟨q.1,q.2.1,q.2.2.1,q.2.2.2.1,Hq h.row gr q.2.2.2.2.1 (by decide),q.2.2.2.2.2⟩) (hx.mono fun _ _ q=>⟨q.1,q.2.1,q.2.2.1,q.2.2.2.1,Hq h.row gr q.2.2.2.2.1 (by decide),q.2.2.2.2.2⟩)⟩
theorem jo.app {W W':ak} {B:Nat} {v:aN} {l:List mY} {b:Br} {nv av sv ev ov:Sl} (ho:EP W B v l) (gr:W.grownBy W' v.ownBlock) (h:jo W b nv av sv ev ov):jo W' b nv av sv ev ov:=by
 rcases eZ ho with⟨h1,_⟩|⟨g,c,cur,h1,_,h2,_⟩
 ·rw [h1] at gr;exact h.on ((Below.refl _ _).grown gr (Nat.le_refl _) (fun j hj=>by cases hj))
 ·rw [h1] at gr;exact h.nY (jJ (b:=g) gr) h2 (by decide) (by decide) (by decide) (by decide) (by decide) (by decide)
end Fl
namespace Bk
open Go.RowKit Go.Sort Rw YtghlpefopidlaaaGreat.Nm Pr
end Bk
end Go.Proofs.YtghlpefopidlaaaGreat
