/-
  To of package carry:. Conditions as told.
-/
import Derived.Test.YtkcfgbddlpomgaaBQ042
import Derived.Test.YtkcfgbddlpomgaaBQ044
set_option maxRecDepth 100000
set_option maxHeartbeats 64000000
open Go.IntKind renaming i64->L
open Go.Lib renaming hid->D
open Go.Value renaming slice->J,int->K
open _root_.List renaming getElem?_eq_getElem->U,getElem?_cons_zero->V,getElem?_cons_succ->Z,getElem?_toArray->ah,length_filter_le->aj,length_take->ak,take_length->au,length_map->aA
open _root_.Nat renaming le_trans->O,zero_le->ay
namespace Go.Proofs.Ytkcfgbddlpomgaa.Ca
open Go.RowKit Go.Sort Rw Ytkcfgbddlpomgaa.Nm Pr Bk Av Rl Sb Fl
theorem Ah (b:Br) (nv av sv ev ov:Sl) (t:dI) (lv:Sl) (l:List An) (w:World) (h:iF w b nv av sv ev ov) (hc:mM b) (hl:kX w (dz lv) l) (hn:NL l) :
  Calls Try.prog 23 #[nE b.me nv av sv ev ov,lq t,dz lv] w fun e w'=>(∃ o:Sl,e=.returned (dz o)/\gK w' w.heap.size (dz o) (toB b t l))/\Below w.heap.size w w':=by
 obtain⟨no,nn,nc⟩:=nv;obtain⟨ao,an,ac⟩:=av;obtain⟨so,sn,sc⟩:=sv;obtain⟨eo,en,ec⟩:=ev;obtain⟨oo,iN,oc⟩:=ov;obtain⟨lo,ln,lc⟩:=lv;obtain⟨c,d⟩:=t;obtain⟨le,he1,he2⟩:=h.ent;obtain⟨h0,X,Y⟩:=eX w #[K L b.me,J no nn nc,J ao an ac,J so sn sc,J eo en ec,J oo iN oc] #[K L c,K L d] 30 23;have GB:=D h0;obtain⟨x0,x1,x2,x3,x4,x5⟩:=X.gX;obtain⟨y0,y1⟩:=Y.cs2;have hr:fM b.ent:=hc.ok.ent;have OFF:=D (rF b.me (J no nn nc) (J ao an ac) (J so sn sc) (J oo iN oc) (eo,en,ec) le b.ent (c,d) _ (he1.on h0) (he2.mono fun _ _ q=>q.on h0) hr (by rw [he2.len]; exact hc.few.ent) hc.Ey.ent);have I5:=D (hl.on h0);have G7:=D hn;have CB:=D hc;have HM:=D (show (iV b.ent (c,d)).length<=900 from O (by rw [kP hr]; exact aj _ _) hc.few.ent);have OK:=D (show ∀ e∈iV b.ent (c,d),eF e.p from fun e he=>hc.pe e ((rT hr (c,d) e).1 he).1);have TI:=D (fun (r:List Int) (h1:r.Pairwise (·<·)) (h2:∀ x,x∈r↔x∈gV (iV b.ent (c,d)) l)=>Ez hc (t:=(c,d)) (l:=l) h1 h2);generalize toB b (c,d) l=res at *;generalize iV b.ent (c,d)=mb at *;clear X Y h hc hl hn h0 he1 he2 hr;go_enter Try.func23,Try.ntmps23;go_wp2_with fail;generalize (w.alloc (.cells #[K L b.me,J no nn nc,J ao an ac,J so sn sc,J eo en ec,J oo iN oc] 30)).alloc (.cells #[K L c,K L d] 23)=W at *;refine OFF.out.mono ?_;rintro e1 w1 ⟨⟨⟨z1,z2,z3⟩,lb,rfl,hr1,hr2⟩,hb⟩;have hnl:lb.length=z2:=jf hr1;have HN:=D hnl;have hz:z2<=900:=by have:=hr2.len; have:=HM.out; omega
 have B1:=D (GB.out.trans (hb.mono GB.out.size));have R1:=D hr1;have R2:=D hr2;have LL:=D (I5.out.on hb);clear hr1 hr2 hb OFF I5 GB x0 x1 x2 x3 x4 x5 y0 y1 hnl;go_wp2
 go_loopw [7,14] (fun v i wr=>∃ k:Nat,k<=z2/\i=K L k/\Below w1.heap.size w1 wr/\gK wr w1.heap.size v (gV (mb.take k) l)) (fun _ i _=>z2-(intOf i).toNat)
 case atStart=>exact⟨0,ay _,rfl,Below.refl _ _,eG _ _⟩
 case round =>
  obtain⟨k,hk,rfl,hbe,hown⟩:=hrel;have BE:=D hbe;have OE:=D hown;clear hbe hown;by_cases hlt:k<z2
  ·obtain⟨y,hy⟩:∃ y,lb[k]?=some y:=⟨_,U (by rw [HN.out]; exact hlt)⟩;obtain⟨q,ix,px⟩:=F4 R1.out rfl HN.out hy;obtain⟨p0,p1,p2,p3,p4,p5,p6⟩:=px wr BE.out;obtain⟨e,he,_,hin⟩:=fO R2.out hy;obtain⟨y1,y2,y3,y4,⟨yo,yn,yc⟩,y6,y7⟩:=y;simp only at p0 p1 p2 p3 p4 p5 p6;have NB:=D (fK wr (.cells #[K L y1,K L y2,K L y3,K L y4,J yo yn yc,K L y6,.bool y7] 41));have BF:=D (BE.out.trans (NB.out.mono BE.out.size));have hx:=dB wr #[K L y1,K L y2,K L y3,K L y4,J yo yn yc,K L y6,.bool y7] 41;have hw3:IntKind.i64.wrap ((k:Int)+1)=(k:Int)+1:=IntWalk.i64_in _ (by omega);have HF:=D (show y6=e.from_ from hin.2.2.1);have HE:=D he;have OB:=D (Bk.dx OE.out NB.out);by_cases hp:y6=-1
   ·have hne:(y6 != -1)=false:=by simp [hp]
    have E2:=D (qB (l:=l) he (Or.inl (by rw [<- HF.out]; exact hp)));have v5:=hx.cell 5;simp only [ah,V,Z] at v5;clear hp px hy he hin hx;go_wp2
    go_roundw
    case rel=>exact⟨k+1,by omega,by go_num,BF.out,by rw [E2.out]; exact OB.out⟩
    case measure=>simp [intOf]; omega
   ·have hne:(y6 != -1)=true:=by simp [hp]
    have MA:=D (tH (J yo yn yc) (J lo ln lc) e.p l _ (hin.2.2.2.2.on BF.out) (LL.out.on BF.out) (OK.out e (List.mem_of_getElem? he)) G7.out);have BX:=D hx;have NE:=D (show e.from_≠-1 by rw [<- HF.out]; exact hp);have v4:=hx.cell 4;have v5:=hx.cell 5;simp only [ah,V,Z] at v4 v5;obtain⟨g,hg⟩:∃ g,jX e.p l=g:=⟨_,rfl⟩;rw [hg] at MA;have HG:=D hg;clear hp px hy he hin hx hg;go_wp2_with fail;refine MA.out.mono ?_;rintro e3 w3 ⟨rfl,hb⟩;have BG:=D (BF.out.trans (hb.mono BF.out.size));have OC:=D (Bk.dx OB.out hb);have u5:=(BX.out.on hb).cell 5;simp only [ah,V,Z] at u5;clear hb MA v4 v5 BF OB NB p0 p1 p2 p3 p4 p5 p6 ix;cases g
    ·have E2:=D (qB (l:=l) HE.out (Or.inr HG.out));go_wp2
     go_roundw
     case rel=>exact⟨k+1,by omega,by go_num,BG.out,by rw [E2.out]; exact OC.out⟩
     case measure=>simp [intOf]; omega
    ·have E2:=D (vQ (l:=l) HE.out NE.out HG.out);have G8:(gV (mb.take k) l).length<=900:=O (nY _ _) (O (List.length_take_le _ _) (by omega));obtain⟨v',w',r',o',bl⟩:=tJ y6 OC.out (by omega) BG.out.size BG.out;have O2:=D o';have B2:=D bl;clear G8 o' bl BX;go_wp2_with (first | (at_builtin; refine wpList_append_run rfl _ _ 24 rfl rfl rfl r' ?_) | fail)
     go_roundw
     case rel=>exact⟨k+1,by omega,by go_num,B2.out,by rw [E2.out,<- HF.out]; exact O2.out⟩
     case measure=>simp [intOf]; omega
  ·obtain rfl:z2=k:=by omega
   have e:mb.take z2=mb:=List.take_of_length_le (by have:=HN.out; have:=R2.out.len; omega);rw [e] at OE;obtain⟨Ck,Cm,hv⟩:=(Row.dw OE.out).len;subst hv;have CR:=D (nX wr w1.heap.size (Ck,_,Cm) _ OE.out (O (nY _ _) HM.out) BE.out.size);clear e;generalize (gV mb l).length=JA at *;go_wp2_with fail;refine CR.out.mono ?_;rintro e4 w4 ⟨⟨⟨r1,r2,r3⟩,lr,rfl,ho,hs,hm⟩,hb⟩;have Q:=D (show (∃ o:Sl,Ending.returned (J r1 r2 r3)=.returned (dz o)/\gK w4 w.heap.size (dz o) res)/\Below w.heap.size w w4 from ⟨⟨(r1,r2,r3),rfl,by rw [<- TI.out lr hs hm]; exact cK ho B1.out.size⟩,B1.out.trans ((BE.out.trans hb).mono B1.out.size)⟩);clear ho hs hm hb CR TI;go_wp2;go_ret;exact Q.out
theorem qF (b:Br) (nv av sv ev ov:Sl) (f k0:Int) (t x:dI) (lv:Sl) (l:List An) (w:World) (h:iF w b nv av sv ev ov) (hc:mM b) (hl:kX w (dz lv) l) (hn:NL l) :
  Calls Try.prog 7 #[nE b.me nv av sv ev ov,K L f,.agg #[K L k0,K L t.1,K L t.2,K L x.1,K L x.2,J none 0 0,dz lv]] w fun e w'=>(∃ o d:Sl,e=.returned (.tuple #[dz o,dz d])/\(∃ lx,uE w' w.heap.size (dz o) lx/\dJ (Cg w') lx (oV k0 t x l (iA b f t l).1))/\∃ ly,qh w' w.heap.size (dz d) ly/\dJ (G5 w') ly (qA x l (iA b f t l).2))/\Below w.heap.size w w':=by
 obtain⟨s1,s2,s3⟩:=nv;obtain⟨s4,s5,s6⟩:=av;obtain⟨s7,s8,s9⟩:=sv;obtain⟨s10,s11,s12⟩:=ev;obtain⟨s13,s14,s15⟩:=ov;obtain⟨po,pn,pc⟩:=lv;obtain⟨t1,t2⟩:=t;obtain⟨x1,x2⟩:=x;obtain⟨la,ha1,ha2⟩:=h.dU;obtain⟨NB,K3,K5⟩:=eX w #[K L b.me,J s1 s2 s3,J s4 s5 s6,J s7 s8 s9,J s10 s11 s12,J s13 s14 s15] #[K L k0,K L t1,K L t2,K L x1,K L x2,J none 0 0,J po pn pc] 30 48;have SW:=D (qj b.me (J s1 s2 s3) (J s7 s8 s9) (J s10 s11 s12) (J s13 s14 s15) (s4,s5,s6) la b.dU (t1,t2) _ (ha1.on NB) (ha2.mono fun _ _ q=>q.on NB) hc.Ey.dU);have rX:=D (NB);have CG:=D (K3);have CJ:=D (K5);have E9:=D (h.on NB);have Fa:=D (hl.on NB);have CB:=D hc;have Hw:=D hn;have L5:=D (show l.length<=900 by have:=hn.five; omega);have NF:=D hc.few.near;clear NB K3 K5 ha1 ha2 h hc hl hn;go_enter Try.func7,Try.ntmps7;go_upto_region 1 with fail;generalize (w.alloc (.cells #[K L b.me,J s1 s2 s3,J s4 s5 s6,J s7 s8 s9,J s10 s11 s12,J s13 s14 s15] 30)).alloc (.cells #[K L k0,K L t1,K L t2,K L x1,K L x2,J none 0 0,J po pn pc] 48)=W at *;obtain⟨vY,vZ,wh,wm,wo,wu⟩:=CG.out.gX;obtain⟨Fb,Fe,Fg,Fh,Fj,Fp,Fq⟩:=CJ.out.qG;go_wp2_with fail;refine SW.out.mono ?_;rintro e1 w1 ⟨hq,hb⟩;clear vY vZ wh wm wo wu Fb Fe Fg Fh Fj Fp Fq;clear SW;have mQ:=D (rX.out.trans (hb.mono rX.out.size));have Fu:=D (CG.out.on hb);have Fv:=D (CJ.out.on hb);have wB:=D (E9.out.on hb);have Fw:=D (Fa.out.on hb);clear rX CG CJ E9 Fa;clear hb;cases hfa:fD b.dU (t1,t2) with
 | none =>
  rw [hfa] at hq;obtain rfl:=hq;have HC:=D (yM (f:=f) (l:=l) hfa);clear hfa;go_wp2
  go_ret2
  exact⟨⟨(none,0,0),(none,0,0),rfl,⟨[],eG _ _,by rw [HC.out]; exact .nil⟩,[],eG _ _,by rw [HC.out]; exact .nil⟩,(mQ).out.alloc (mQ).out.size _⟩
 | some a =>
  rw [hfa] at hq;obtain⟨⟨r1,r2,⟨ro,rn,rc⟩,r4⟩,rfl,hin⟩:=hq;have HP:=D (show r4=a.par from hin.2.1);clear hin;by_cases hp:r4=f
  ·have hne:(r4 != f)=false:=by simp [hp]
   have HC:=D (yN (f:=f) (l:=l) hfa (by rw [<- HP.out]; exact hp));clear hp hfa HP;generalize hns:toB b (t1,t2) l=ns at HC;generalize hcs:lY b l=cs at HC;have TO:=D (fun W h1 h2=>Ah b (s1,s2,s3) (s4,s5,s6) (s7,s8,s9) (s10,s11,s12) (s13,s14,s15) (t1,t2) (po,pn,pc) l W h1 CB.out h2 Hw.out);have CL:=D (fun W h1 h2=>Ab b (s1,s2,s3) (s4,s5,s6) (s7,s8,s9) (s10,s11,s12) (s13,s14,s15) (po,pn,pc) l W h1 CB.out h2 Hw.out);have LN:=D (show ns.length<=900 by rw [<- hns]; exact O (aj _ _) NF.out);have LC:=D (show cs.length<=900 by rw [<- hcs]; exact O (yI b l) (by decide));rw [hns] at TO;rw [hcs] at CL;clear hns hcs NF CB Hw;have NB:=fK w1 (.cells #[K L r1,K L r2,J ro rn rc,K L r4] 36);have CK:=D (mQ.out.trans (NB.mono mQ.out.size));have CQ:=D (Fu.out.on NB);have CU:=D (Fv.out.on NB);have CW:=D (wB.out.on NB);have CX:=D (Fw.out.on NB);clear mQ Fu Fv wB Fw;clear NB;go_upto_region 4 with fail;clear hne;generalize w1.alloc (.cells #[K L r1,K L r2,J ro rn rc,K L r4] 36)=w2 at *;obtain⟨vY,vZ,wh,wm,wo,wu⟩:=CQ.out.gX;obtain⟨Fb,Fe,Fg,Fh,Fj,Fp,Fq⟩:=CU.out.qG;go_wp2_with fail;refine (TO.out w2 CW.out CX.out).mono ?_;rintro e3 w3 ⟨⟨⟨g1,g2,g3⟩,rfl,hg⟩,hb⟩;clear vY vZ wh wm wo wu Fb Fe Fg Fh Fj Fp Fq;clear TO;have rY:=D (CK.out.trans (hb.mono CK.out.size));have Fx:=D (CQ.out.on hb);have CY:=D (CU.out.on hb);have Fy:=D (CW.out.on hb);have CZ:=D (CX.out.on hb);clear CK CQ CU CW CX;have Ai:=D (Row.dw hg);clear hb hg;have hgn:ns.length=g2:=jf Ai.out;subst hgn;go_wp2
   go_loopw [10,38] (fun v i wr=>∃ (k:Nat) (lx:List nG),k<=ns.length/\i=K L k/\Below w3.heap.size w3 wr/\uE wr w3.heap.size v lx/\dJ (tL wr w3.heap.size) lx (oV k0 (t1,t2) (x1,x2) l (ns.take k))) (fun _ i _=>ns.length-(intOf i).toNat)
   case atStart=>exact⟨0,[],ay _,rfl,Below.refl _ _,eG _ _,.nil⟩
   case round =>
    obtain⟨k,lx,hk,rfl,hbe,hown,hall⟩:=hrel;have BE:=D hbe;have OE:=D hown;have AE:=D hall;clear hbe hown hall;by_cases hlt:k<ns.length
    ·obtain⟨n,hy⟩:∃ n,ns[k]?=some n:=⟨_,U hlt⟩;obtain⟨q,ix,px⟩:=Ib Ai.out rfl rfl hy;have p0:=px.2 wr BE.out;have hw3:IntKind.i64.wrap ((k:Int)+1)=(k:Int)+1:=IntWalk.i64_in _ (by have:=LN.out; omega);have CM:=D (Ac k0 t1 t2 x1 x2 (po,pn,pc) l wr (CZ.out.on BE.out) L5.out);have HY:=D (vS (k:=k0) (t:=(t1,t2)) (x:=(x1,x2)) (l:=l) hy);have BX:=CY.out.on BE.out;obtain⟨m0,m1,m2,m3,m4,m5,m6⟩:=BX.qG;clear px hy BX;go_wp2_with fail;refine CM.out.mono ?_;rintro e4 w4 ⟨⟨⟨u1,u2,u3⟩,rfl,ho⟩,hb⟩;have hlx:lx.length<=1000:=by have:=AE.out.len; unfold oV at this; rw [aA,ak] at this; have:=LN.out; omega
     obtain⟨v',w',r',o',a',bl⟩:=Co (n,k0,t1,t2,x1,x2,(none,0,0),(u1,u2,u3)) (⟨n,k0,(t1,t2),(x1,x2),[]⟩,l) (Bk.dx OE.out hb) (AE.out.mono fun _ _ q=>q.on hb) ⟨rfl,rfl,rfl,rfl,rfl,rfl,cK ho BE.out.size⟩ hlx (O BE.out.size hb.size) (BE.out.trans (hb.mono BE.out.size));have O2:=D o';have A2:=D a';have B2:=D bl;clear CM hb ho o' a' bl hlx p0 ix m0 m1 m2 m3 m4 m5 m6;go_wp2_with (first | (at_builtin; refine wpList_append_run rfl _ _ 42 rfl rfl rfl r' ?_) | fail)
     go_roundw
     case rel=>exact⟨k+1,_,by omega,by go_num,B2.out,O2.out,by rw [HY.out]; exact A2.out⟩
     case measure=>simp [intOf]; omega
    ·obtain rfl:k=ns.length:=by omega
     rw [au] at AE;obtain⟨Ck,Cm,hv⟩:=(Row.dw OE.out).len;subst hv;have WS:=D (show w.heap.size<=w3.heap.size from rY.out.size);have mR:=D (rY.out.trans (BE.out.mono rY.out.size));have yZ:=D (Fx.out.on BE.out);have y8:=D (CY.out.on BE.out);have y9:=D (Fy.out.on BE.out);have za:=D (CZ.out.on BE.out);have Fz:=D (Ai.out.on BE.out);clear rY Fx CY Fy CZ Ai;have A8:=D (cK OE.out WS.out);clear WS;have A9:=D (AE.out.mono fun _ _ q=>q.a);clear BE OE AE;obtain⟨vY,vZ,wh,wm,wo,wu⟩:=yZ.out.gX;obtain⟨Fb,Fe,Fg,Fh,Fj,Fp,Fq⟩:=y8.out.qG;go_wp2_with fail;refine (CL.out wr y9.out za.out).mono ?_;rintro e5 w5 ⟨⟨⟨j1,j2,j3⟩,rfl,hg⟩,hb⟩;clear vY vZ wh wm wo wu Fb Fe Fg Fh Fj Fp Fq;clear CL;clear Fz;have tO:=D (mR.out.trans (hb.mono mR.out.size));have Ba:=D (yZ.out.on hb);have ze:=D (y8.out.on hb);have Bb:=D (y9.out.on hb);have zf:=D (za.out.on hb);have Bc:=D (Bk.dx A8.out hb);have Bd:=D (A9.out.mono fun _ _ q=>q.on hb);clear mR yZ y8 y9 za A8 A9;have tQ:=D (Row.dw hg);clear hb hg;have hgn:cs.length=j2:=jf tQ.out;subst hgn;go_wp2
     go_loopw [13,55] (fun v i wr=>∃ (k:Nat) (ly:List oK),k<=cs.length/\i=K L k/\Below w5.heap.size w5 wr/\qh wr w5.heap.size v ly/\dJ (qL wr w5.heap.size) ly (qA (x1,x2) l (cs.take k))) (fun _ i _=>cs.length-(intOf i).toNat)
     case atStart=>exact⟨0,[],ay _,rfl,Below.refl _ _,eG _ _,.nil⟩
     case round =>
      rename_i wp
      obtain⟨k,ly,hk,rfl,hbe,hown,hall⟩:=hrel;have BE:=D hbe;have OE:=D hown;have AE:=D hall;clear hbe hown hall;by_cases hlt:k<cs.length
      ·obtain⟨n,hy⟩:∃ n,cs[k]?=some n:=⟨_,U hlt⟩;obtain⟨q,ix,px⟩:=Ib tQ.out rfl rfl hy;have p0:=px.2 wr BE.out;have hw3:IntKind.i64.wrap ((k:Int)+1)=(k:Int)+1:=IntWalk.i64_in _ (by have:=LC.out; omega);have HY:=D (vT (x:=(x1,x2)) (l:=l) hy);clear px hy;go_upto_region 14 with fail;have JN:ly.length<=900:=by have:=AE.out.len; unfold qA at this; rw [aA,ak] at this; have:=LC.out; omega
       refine EH _ wr w5.heap.size _ k0 t1 t2 x1 x2 n po pn pc l _ ly _ _ _ _ _ _ _ _ _ _ _ _ _ _ _ _ _ _ _ _ _ _ _ _ _ _ _ _ _ _ _ _ _ _ _ _ _ _ _ _ _ _ _ _ _ _ _ _ _ _ _ _ _ _ _ _ _ _ _ _ _ _ _ _ _ _ _ _ _ _ (ze.out.on BE.out) (zf.out.on BE.out) L5.out OE.out AE.out BE.out.size JN ?_;intro x6 w13 v59 v60 v61 v62 v63 v64 v65 v66 v67 v68 q o6 a6 b6;have O2:=D o6;have A2:=D a6;have B2:=D (BE.out.trans b6);clear o6 a6 b6 p0 ix;go_wp2
       go_roundw
       case rel=>exact⟨k+1,_,by omega,by go_num,B2.out,O2.out,by rw [HY.out]; exact A2.out⟩
       case measure=>simp [intOf]; omega
      ·obtain rfl:k=cs.length:=by omega
       rw [au] at AE;obtain⟨JO,JQ,hv⟩:=(Row.dw OE.out).len;subst hv;have WS:=D (show w.heap.size<=w5.heap.size from tO.out.size);have tT:=D (tO.out.trans (BE.out.mono tO.out.size));have I6:=D (Ba.out.on BE.out);have I7:=D (ze.out.on BE.out);have I8:=D (Bb.out.on BE.out);have I9:=D (zf.out.on BE.out);have FE:=D (Bk.dx Bc.out BE.out);have FI:=D (Bd.out.mono fun _ _ q=>q.on BE.out);have Ja:=D (tQ.out.on BE.out);clear tO Ba ze Bb zf Bc Bd tQ;go_wp2
       go_ret2
       exact⟨⟨(Ck,_,Cm),(JO,_,JQ),rfl,⟨_,FE.out,by rw [HC.out]; exact FI.out⟩,_,cK OE.out WS.out,by rw [HC.out]; exact AE.out.mono fun _ _ q=>q.a⟩,tT.out⟩
  ·have hne:(r4 != f)=true:=by simp [hp]
   have HC:=D (rV (f:=f) (l:=l) hfa (by rw [<- HP.out]; exact hp));clear hp hfa HP;go_wp2
   go_ret2
   exact⟨⟨(none,0,0),(none,0,0),rfl,⟨[],eG _ _,by rw [HC.out]; exact .nil⟩,[],eG _ _,by rw [HC.out]; exact .nil⟩,(mQ).out.alloc (mQ).out.size _⟩
end Go.Proofs.Ytkcfgbddlpomgaa.Ca
