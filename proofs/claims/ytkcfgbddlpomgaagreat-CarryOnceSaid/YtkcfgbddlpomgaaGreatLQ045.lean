/-
  To of package carry:. Conditions as told.
-/
import Derived.Test.YtkcfgbddlpomgaaGreatLQ044
import Derived.Test.YtkcfgbddlpomgaaGreatLQ039
set_option maxRecDepth 100000
set_option maxHeartbeats 64000000
open Go.IntKind renaming i64->L
open Go.Lib renaming hid->D
open Go.Value renaming slice->J,int->K
open _root_.List renaming getElem?_eq_getElem->U,getElem?_cons_zero->V,getElem?_cons_succ->Z,getElem?_toArray->ah,length_filter_le->aj,length_take->ak,take_length->au,length_map->aA
open _root_.Nat renaming le_trans->O,zero_le->ay
namespace Go.Proofs.YtkcfgbddlpomgaaGreat.Ca
open Go.RowKit Go.Sort Rw YtkcfgbddlpomgaaGreat.Nm Pr Bk Av Rl Sb Fl
theorem Ey (b:Br) (nv av sv ev ov:Sl) (t:eG) (lv:Sl) (l:List An) (w:World) (h:iA w b nv av sv ev ov) (hc:sV b) (hl:tX w (dP lv) l) (hn:NL l) :
  Calls Tryz.prog 17 #[nT b.me nv av sv ev ov,lV t,dP lv] w fun e w'=>(∃ o:Sl,e=.returned (dP o)/\mI w' w.heap.size (dP o) (toB b t l))/\Below w.heap.size w w':=by
 obtain⟨no,nn,nc⟩:=nv;obtain⟨ao,an,ac⟩:=av;obtain⟨so,sn,sc⟩:=sv;obtain⟨eo,en,ec⟩:=ev;obtain⟨oo,dL,oc⟩:=ov;obtain⟨lo,ln,lc⟩:=lv;obtain⟨c,d⟩:=t;obtain⟨le,he1,he2⟩:=h.ent;obtain⟨h0,X,Y⟩:=gQ w #[K L b.me,J no nn nc,J ao an ac,J so sn sc,J eo en ec,J oo dL oc] #[K L c,K L d] 33 38;have GB:=D h0;obtain⟨x0,x1,x2,x3,x4,x5⟩:=X.eZ;obtain⟨y0,y1⟩:=Y.cs2;have hr:kg b.ent:=hc.ok.ent;have OFF:=D (D5 b.me (J no nn nc) (J ao an ac) (J so sn sc) (J oo dL oc) (eo,en,ec) le b.ent (c,d) _ (he1.on h0) (he2.mono fun _ _ q=>q.on h0) hr (by rw [he2.len]; exact hc.few.ent) hc.J2.ent);have HLL:=D (hl.on h0);have NLL:=D hn;have CB:=D hc;have HM:=D (show (qF b.ent (c,d)).length<=900 from O (by rw [nJ hr]; exact aj _ _) hc.few.ent);have OK:=D (show ∀ e∈qF b.ent (c,d),dQ e.p from fun e he=>hc.pe e ((JM hr (c,d) e).1 he).1);have TI:=D (fun (r:List Int) (h1:r.Pairwise (·<·)) (h2:∀ x,x∈r↔x∈og (qF b.ent (c,d)) l)=>adC hc (t:=(c,d)) (l:=l) h1 h2);generalize toB b (c,d) l=res at *;generalize qF b.ent (c,d)=mb at *;clear X Y h hc hl hn h0 he1 he2 hr;go_enter Tryz.func17,Tryz.ntmps17;go_wp2_with fail;generalize (w.alloc (.cells #[K L b.me,J no nn nc,J ao an ac,J so sn sc,J eo en ec,J oo dL oc] 33)).alloc (.cells #[K L c,K L d] 38)=W at *;refine OFF.out.mono ?_;rintro e1 w1 ⟨⟨⟨z1,z2,z3⟩,lb,rfl,hr1,hr2⟩,hb⟩;have hnl:lb.length=z2:=rZ hr1;have HN:=D hnl;have hz:z2<=900:=by have:=hr2.len; have:=HM.out; omega
 have B1:=D (GB.out.trans (hb.mono GB.out.size));have R1:=D hr1;have R2:=D hr2;have LL:=D (HLL.out.on hb);clear hr1 hr2 hb OFF HLL GB x0 x1 x2 x3 x4 x5 y0 y1 hnl;go_wp2
 go_loopw [7,14] (fun v i wr=>∃ k:Nat,k<=z2/\i=K L k/\Below w1.heap.size w1 wr/\mI wr w1.heap.size v (og (mb.take k) l)) (fun _ i _=>z2-(intOf i).toNat)
 case atStart=>exact⟨0,ay _,rfl,Below.refl _ _,gy _ _⟩
 case round =>
  obtain⟨k,hk,rfl,hbe,hown⟩:=hrel;have BE:=D hbe;have OE:=D hown;clear hbe hown;by_cases hlt:k<z2
  ·obtain⟨y,hy⟩:∃ y,lb[k]?=some y:=⟨_,U (by rw [HN.out]; exact hlt)⟩;obtain⟨q,ix,px⟩:=Px R1.out rfl HN.out hy;obtain⟨p0,p1,p2,p3,p4,p5,p6⟩:=px wr BE.out;obtain⟨e,he,_,hin⟩:=kH R2.out hy;obtain⟨y1,y2,y3,y4,⟨yo,yn,yc⟩,y6,y7⟩:=y;simp only at p0 p1 p2 p3 p4 p5 p6;have NB:=D (fO wr (.cells #[K L y1,K L y2,K L y3,K L y4,J yo yn yc,K L y6,.bool y7] 68));have BF:=D (BE.out.trans (NB.out.mono BE.out.size));have hx:=dK wr #[K L y1,K L y2,K L y3,K L y4,J yo yn yc,K L y6,.bool y7] 68;have hw3:IntKind.i64.wrap ((k:Int)+1)=(k:Int)+1:=IntWalk.i64_in _ (by omega);have HF:=D (show y6=e.from_ from hin.2.2.1);have HE:=D he;have OB:=D (Bk.dx OE.out NB.out);by_cases hp:y6=-1
   ·have hne:(y6 != -1)=false:=by simp [hp]
    have E2:=D (Io (l:=l) he (Or.inl (by rw [<- HF.out]; exact hp)));have v5:=hx.cell 5;simp only [ah,V,Z] at v5;clear hp px hy he hin hx;go_wp2
    go_roundw
    case rel=>exact⟨k+1,by omega,by go_num,BF.out,by rw [E2.out]; exact OB.out⟩
    case measure=>simp [intOf]; omega
   ·have hne:(y6 != -1)=true:=by simp [hp]
    have MA:=D (Mr (J yo yn yc) (J lo ln lc) e.p l _ (hin.2.2.2.2.on BF.out) (LL.out.on BF.out) (OK.out e (List.mem_of_getElem? he)) NLL.out);have BX:=D hx;have NE:=D (show e.from_≠-1 by rw [<- HF.out]; exact hp);have v4:=hx.cell 4;have v5:=hx.cell 5;simp only [ah,V,Z] at v4 v5;obtain⟨g,hg⟩:∃ g,mh e.p l=g:=⟨_,rfl⟩;rw [hg] at MA;have HG:=D hg;clear hp px hy he hin hx hg;go_wp2_with fail;refine MA.out.mono ?_;rintro e3 w3 ⟨rfl,hb⟩;have BG:=D (BF.out.trans (hb.mono BF.out.size));have OC:=D (Bk.dx OB.out hb);have u5:=(BX.out.on hb).cell 5;simp only [ah,V,Z] at u5;clear hb MA v4 v5 BF OB NB p0 p1 p2 p3 p4 p5 p6 ix;cases g
    ·have E2:=D (Io (l:=l) HE.out (Or.inr HG.out));go_wp2
     go_roundw
     case rel=>exact⟨k+1,by omega,by go_num,BG.out,by rw [E2.out]; exact OC.out⟩
     case measure=>simp [intOf]; omega
    ·have E2:=D (Ph (l:=l) HE.out NE.out HG.out);have hl9:(og (mb.take k) l).length<=900:=O (Da _ _) (O (List.length_take_le _ _) (by omega));obtain⟨v',w',r',o',bl⟩:=Ms y6 OC.out (by omega) BG.out.size BG.out;have O2:=D o';have B2:=D bl;clear hl9 o' bl BX;go_wp2_with (first | (at_builtin; refine wpList_append_run rfl _ _ 25 rfl rfl rfl r' ?_) | fail)
     go_roundw
     case rel=>exact⟨k+1,by omega,by go_num,B2.out,by rw [E2.out,<- HF.out]; exact O2.out⟩
     case measure=>simp [intOf]; omega
  ·obtain rfl:z2=k:=by omega
   have e:mb.take z2=mb:=List.take_of_length_le (by have:=HN.out; have:=R2.out.len; omega);rw [e] at OE;obtain⟨Ai,Aj,hv⟩:=(Row.dw OE.out).len;subst hv;have CR:=D (Df wr w1.heap.size (Ai,_,Aj) _ OE.out (O (Da _ _) HM.out) BE.out.size);clear e;generalize (og mb l).length=nn9 at *;go_wp2_with fail;refine CR.out.mono ?_;rintro e4 w4 ⟨⟨⟨r1,r2,r3⟩,lr,rfl,ho,hs,hm⟩,hb⟩;have Q:=D (show (∃ o:Sl,Ending.returned (J r1 r2 r3)=.returned (dP o)/\mI w4 w.heap.size (dP o) res)/\Below w.heap.size w w4 from ⟨⟨(r1,r2,r3),rfl,by rw [<- TI.out lr hs hm]; exact dG ho B1.out.size⟩,B1.out.trans ((BE.out.trans hb).mono B1.out.size)⟩);clear ho hs hm hb CR TI;go_wp2;go_ret;exact Q.out
theorem Ac (b:Br) (nv av sv ev ov:Sl) (f k0:Int) (t x:eG) (lv:Sl) (l:List An) (w:World) (h:iA w b nv av sv ev ov) (hc:sV b) (hl:tX w (dP lv) l) (hn:NL l) :
  Calls Tryz.prog 11 #[nT b.me nv av sv ev ov,K L f,.agg #[K L k0,K L t.1,K L t.2,K L x.1,K L x.2,J none 0 0,dP lv]] w fun e w'=>(∃ o d:Sl,e=.returned (.tuple #[dP o,dP d])/\(∃ lx,iZ w' w.heap.size (dP o) lx/\eu (Ym w') lx (AV k0 t x l (jX b f t l).1))/\∃ ly,Gf w' w.heap.size (dP d) ly/\eu (DlA w') ly (Es x l (jX b f t l).2))/\Below w.heap.size w w':=by
 obtain⟨s1,s2,s3⟩:=nv;obtain⟨s4,s5,s6⟩:=av;obtain⟨s7,s8,s9⟩:=sv;obtain⟨s10,s11,s12⟩:=ev;obtain⟨s13,s14,s15⟩:=ov;obtain⟨po,pn,pc⟩:=lv;obtain⟨t1,t2⟩:=t;obtain⟨x1,x2⟩:=x;obtain⟨la,ha1,ha2⟩:=h.dM;obtain⟨NB,K3,K5⟩:=gQ w #[K L b.me,J s1 s2 s3,J s4 s5 s6,J s7 s8 s9,J s10 s11 s12,J s13 s14 s15] #[K L k0,K L t1,K L t2,K L x1,K L x2,J none 0 0,J po pn pc] 33 43;have SW:=D (y9 b.me (J s1 s2 s3) (J s7 s8 s9) (J s10 s11 s12) (J s13 s14 s15) (s4,s5,s6) la b.dM (t1,t2) _ (ha1.on NB) (ha2.mono fun _ _ q=>q.on NB) hc.J2.dM);have gD:=D (NB);have mq:=D (K3);have kM:=D (K5);have adU:=D (h.on NB);have adV:=D (hl.on NB);have CB:=D hc;have Vy:=D hn;have L5:=D (show l.length<=900 by have:=hn.five; omega);have NF:=D hc.few.near;clear NB K3 K5 ha1 ha2 h hc hl hn;go_enter Tryz.func11,Tryz.ntmps11;go_upto_region 1 with fail;generalize (w.alloc (.cells #[K L b.me,J s1 s2 s3,J s4 s5 s6,J s7 s8 s9,J s10 s11 s12,J s13 s14 s15] 33)).alloc (.cells #[K L k0,K L t1,K L t2,K L x1,K L x2,J none 0 0,J po pn pc] 43)=W at *;obtain⟨xG,xH,xI,xJ,xK,xL⟩:=mq.out.eZ;obtain⟨xm0,xm1,xm2,xm3,xm4,xm5,xm6⟩:=kM.out.oq;go_wp2_with fail;refine SW.out.mono ?_;rintro e1 w1 ⟨hq,hb⟩;clear xG xH xI xJ xK xL xm0 xm1 xm2 xm3 xm4 xm5 xm6;clear SW;have iQ:=D (gD.out.trans (hb.mono gD.out.size));have rA:=D (mq.out.on hb);have Rf:=D (kM.out.on hb);have Ez:=D (adU.out.on hb);have ad4:=D (adV.out.on hb);clear gD mq kM adU adV;clear hb;cases hfa:fP b.dM (t1,t2) with
 | none =>
  rw [hfa] at hq;obtain rfl:=hq;have HC:=D (T9 (f:=f) (l:=l) hfa);clear hfa;go_wp2
  go_ret2
  exact⟨⟨(none,0,0),(none,0,0),rfl,⟨[],gy _ _,by rw [HC.out]; exact .nil⟩,[],gy _ _,by rw [HC.out]; exact .nil⟩,(iQ).out.alloc (iQ).out.size _⟩
 | some a =>
  rw [hfa] at hq;obtain⟨⟨r1,r2,⟨ro,rn,rc⟩,r4⟩,rfl,hin⟩:=hq;have HP:=D (show r4=a.par from hin.2.1);clear hin;by_cases hp:r4=f
  ·have hne:(r4 != f)=false:=by simp [hp]
   have HC:=D (Ua (f:=f) (l:=l) hfa (by rw [<- HP.out]; exact hp));clear hp hfa HP;generalize hns:toB b (t1,t2) l=ns at HC;generalize hcs:rO b l=cs at HC;have TO:=D (fun W h1 h2=>Ey b (s1,s2,s3) (s4,s5,s6) (s7,s8,s9) (s10,s11,s12) (s13,s14,s15) (t1,t2) (po,pn,pc) l W h1 CB.out h2 Vy.out);have CL:=D (fun W h1 h2=>Mt b (s1,s2,s3) (s4,s5,s6) (s7,s8,s9) (s10,s11,s12) (s13,s14,s15) (po,pn,pc) l W h1 CB.out h2 Vy.out);have LN:=D (show ns.length<=900 by rw [<- hns]; exact O (aj _ _) NF.out);have LC:=D (show cs.length<=900 by rw [<- hcs]; exact O (Il b l) (by decide));rw [hns] at TO;rw [hcs] at CL;clear hns hcs NF CB Vy;have NB:=fO w1 (.cells #[K L r1,K L r2,J ro rn rc,K L r4] 53);have lD:=D (iQ.out.trans (NB.mono iQ.out.size));have mO:=D (rA.out.on NB);have AA:=D (Rf.out.on NB);have abC:=D (Ez.out.on NB);have abD:=D (ad4.out.on NB);clear iQ rA Rf Ez ad4;clear NB;go_upto_region 4 with fail;clear hne;generalize w1.alloc (.cells #[K L r1,K L r2,J ro rn rc,K L r4] 53)=w2 at *;obtain⟨xG,xH,xI,xJ,xK,xL⟩:=mO.out.eZ;obtain⟨xm0,xm1,xm2,xm3,xm4,xm5,xm6⟩:=AA.out.oq;go_wp2_with fail;refine (TO.out w2 abC.out abD.out).mono ?_;rintro e3 w3 ⟨⟨⟨g1,g2,g3⟩,rfl,hg⟩,hb⟩;clear xG xH xI xJ xK xL xm0 xm1 xm2 xm3 xm4 xm5 xm6;clear TO;have lN:=D (lD.out.trans (hb.mono lD.out.size));have ad5:=D (mO.out.on hb);have abE:=D (AA.out.on hb);have Uq:=D (abC.out.on hb);have abF:=D (abD.out.on hb);clear lD mO AA abC abD;have Xl:=D (Row.dw hg);clear hb hg;have hgn:ns.length=g2:=rZ Xl.out;subst hgn;go_wp2
   go_loopw [10,38] (fun v i wr=>∃ (k:Nat) (lx:List mU),k<=ns.length/\i=K L k/\Below w3.heap.size w3 wr/\iZ wr w3.heap.size v lx/\eu (Mh wr w3.heap.size) lx (AV k0 (t1,t2) (x1,x2) l (ns.take k))) (fun _ i _=>ns.length-(intOf i).toNat)
   case atStart=>exact⟨0,[],ay _,rfl,Below.refl _ _,gy _ _,.nil⟩
   case round =>
    obtain⟨k,lx,hk,rfl,hbe,hown,hall⟩:=hrel;have BE:=D hbe;have OE:=D hown;have AE:=D hall;clear hbe hown hall;by_cases hlt:k<ns.length
    ·obtain⟨n,hy⟩:∃ n,ns[k]?=some n:=⟨_,U hlt⟩;obtain⟨q,ix,px⟩:=elI Xl.out rfl rfl hy;have p0:=px.2 wr BE.out;have hw3:IntKind.i64.wrap ((k:Int)+1)=(k:Int)+1:=IntWalk.i64_in _ (by have:=LN.out; omega);have CM:=D (Xk k0 t1 t2 x1 x2 (po,pn,pc) l wr (abF.out.on BE.out) L5.out);have HY:=D (Pk (k:=k0) (t:=(t1,t2)) (x:=(x1,x2)) (l:=l) hy);have BX:=abE.out.on BE.out;obtain⟨m0,m1,m2,m3,m4,m5,m6⟩:=BX.oq;clear px hy BX;go_wp2_with fail;refine CM.out.mono ?_;rintro e4 w4 ⟨⟨⟨u1,u2,u3⟩,rfl,ho⟩,hb⟩;have hlx:lx.length<=1000:=by have:=AE.out.len; unfold AV at this; rw [aA,ak] at this; have:=LN.out; omega
     obtain⟨v',w',r',o',a',bl⟩:=abo (n,k0,t1,t2,x1,x2,(none,0,0),(u1,u2,u3)) (⟨n,k0,(t1,t2),(x1,x2),[]⟩,l) (Bk.dx OE.out hb) (AE.out.mono fun _ _ q=>q.on hb) ⟨rfl,rfl,rfl,rfl,rfl,rfl,dG ho BE.out.size⟩ hlx (O BE.out.size hb.size) (BE.out.trans (hb.mono BE.out.size));have O2:=D o';have A2:=D a';have B2:=D bl;clear CM hb ho o' a' bl hlx p0 ix m0 m1 m2 m3 m4 m5 m6;go_wp2_with (first | (at_builtin; refine wpList_append_run rfl _ _ 44 rfl rfl rfl r' ?_) | fail)
     go_roundw
     case rel=>exact⟨k+1,_,by omega,by go_num,B2.out,O2.out,by rw [HY.out]; exact A2.out⟩
     case measure=>simp [intOf]; omega
    ·obtain rfl:k=ns.length:=by omega
     rw [au] at AE;obtain⟨Ai,Aj,hv⟩:=(Row.dw OE.out).len;subst hv;have WS:=D (show w.heap.size<=w3.heap.size from lN.out.size);have kV:=D (lN.out.trans (BE.out.mono lN.out.size));have Ur:=D (ad5.out.on BE.out);have wS:=D (abE.out.on BE.out);have Ae:=D (Uq.out.on BE.out);have Us:=D (abF.out.on BE.out);have ad6:=D (Xl.out.on BE.out);clear lN ad5 abE Uq abF Xl;have Zg:=D (dG OE.out WS.out);clear WS;have Zh:=D (AE.out.mono fun _ _ q=>q.a);clear BE OE AE;obtain⟨xG,xH,xI,xJ,xK,xL⟩:=Ur.out.eZ;obtain⟨xm0,xm1,xm2,xm3,xm4,xm5,xm6⟩:=wS.out.oq;go_wp2_with fail;refine (CL.out wr Ae.out Us.out).mono ?_;rintro e5 w5 ⟨⟨⟨j1,j2,j3⟩,rfl,hg⟩,hb⟩;clear xG xH xI xJ xK xL xm0 xm1 xm2 xm3 xm4 xm5 xm6;clear CL;clear ad6;have xq:=D (kV.out.trans (hb.mono kV.out.size));have vD:=D (Ur.out.on hb);have Ut:=D (wS.out.on hb);have Di:=D (Ae.out.on hb);have Af:=D (Us.out.on hb);have Zi:=D (Bk.dx Zg.out hb);have Zj:=D (Zh.out.mono fun _ _ q=>q.on hb);clear kV Ur wS Ae Us Zg Zh;have Mw:=D (Row.dw hg);clear hb hg;have hgn:cs.length=j2:=rZ Mw.out;subst hgn;go_wp2
     go_loopw [13,55] (fun v i wr=>∃ (k:Nat) (ly:List yX),k<=cs.length/\i=K L k/\Below w5.heap.size w5 wr/\Gf wr w5.heap.size v ly/\eu (IU wr w5.heap.size) ly (Es (x1,x2) l (cs.take k))) (fun _ i _=>cs.length-(intOf i).toNat)
     case atStart=>exact⟨0,[],ay _,rfl,Below.refl _ _,gy _ _,.nil⟩
     case round =>
      rename_i wp
      obtain⟨k,ly,hk,rfl,hbe,hown,hall⟩:=hrel;have BE:=D hbe;have OE:=D hown;have AE:=D hall;clear hbe hown hall;by_cases hlt:k<cs.length
      ·obtain⟨n,hy⟩:∃ n,cs[k]?=some n:=⟨_,U hlt⟩;obtain⟨q,ix,px⟩:=elI Mw.out rfl rfl hy;have p0:=px.2 wr BE.out;have hw3:IntKind.i64.wrap ((k:Int)+1)=(k:Int)+1:=IntWalk.i64_in _ (by have:=LC.out; omega);have HY:=D (Pm (x:=(x1,x2)) (l:=l) hy);clear px hy;go_upto_region 14 with fail;have hly:ly.length<=900:=by have:=AE.out.len; unfold Es at this; rw [aA,ak] at this; have:=LC.out; omega
       refine adT _ wr w5.heap.size _ k0 t1 t2 x1 x2 n po pn pc l _ ly _ _ _ _ _ _ _ _ _ _ _ _ _ _ _ _ _ _ _ _ _ _ _ _ _ _ _ _ _ _ _ _ _ _ _ _ _ _ _ _ _ _ _ _ _ _ _ _ _ _ _ _ _ _ _ _ _ _ _ _ _ _ _ _ _ _ _ _ _ _ (Ut.out.on BE.out) (Af.out.on BE.out) L5.out OE.out AE.out BE.out.size hly ?_;intro x6 w13 v59 v60 v61 v62 v63 v64 v65 v66 v67 v68 q o6 a6 b6;have O2:=D o6;have A2:=D a6;have B2:=D (BE.out.trans b6);clear o6 a6 b6 p0 ix;go_wp2
       go_roundw
       case rel=>exact⟨k+1,_,by omega,by go_num,B2.out,O2.out,by rw [HY.out]; exact A2.out⟩
       case measure=>simp [intOf]; omega
      ·obtain rfl:k=cs.length:=by omega
       rw [au] at AE;obtain⟨vo3,vo4,hv⟩:=(Row.dw OE.out).len;subst hv;have WS:=D (show w.heap.size<=w5.heap.size from xq.out.size);have oQ:=D (xq.out.trans (BE.out.mono xq.out.size));have TN:=D (vD.out.on BE.out);have ahd:=D (Ut.out.on BE.out);have Dj:=D (Di.out.on BE.out);have Dk:=D (Af.out.on BE.out);have ad7:=D (Bk.dx Zi.out BE.out);have ad8:=D (Zj.out.mono fun _ _ q=>q.on BE.out);have ahe:=D (Mw.out.on BE.out);clear xq vD Ut Di Af Zi Zj Mw;go_wp2
       go_ret2
       exact⟨⟨(Ai,_,Aj),(vo3,_,vo4),rfl,⟨_,ad7.out,by rw [HC.out]; exact ad8.out⟩,_,dG OE.out WS.out,by rw [HC.out]; exact AE.out.mono fun _ _ q=>q.a⟩,oQ.out⟩
  ·have hne:(r4 != f)=true:=by simp [hp]
   have HC:=D (J3 (f:=f) (l:=l) hfa (by rw [<- HP.out]; exact hp));clear hp hfa HP;go_wp2
   go_ret2
   exact⟨⟨(none,0,0),(none,0,0),rfl,⟨[],gy _ _,by rw [HC.out]; exact .nil⟩,[],gy _ _,by rw [HC.out]; exact .nil⟩,(iQ).out.alloc (iQ).out.size _⟩
end Go.Proofs.YtkcfgbddlpomgaaGreat.Ca
