/-
  To of package carry:. Conditions as told.
-/
import Derived.Test.YtkcfgbddlpomgaaGreatOQ037
import Derived.Test.YtkcfgbddlpomgaaGreatOQ042
set_option maxRecDepth 100000
set_option maxHeartbeats 64000000
open Go.IntKind renaming i64->L
open Go.Lib renaming hid->D
open Go.Value renaming slice->J,int->K
open _root_.List renaming getElem?_eq_getElem->U,getElem?_cons_zero->V,getElem?_cons_succ->Z,getElem?_toArray->ah,length_filter_le->aj,length_take->ak,take_length->au,length_map->aA
open _root_.Nat renaming le_trans->O,zero_le->ay
namespace Go.Proofs.YtkcfgbddlpomgaaGreat.Ca
open Go.RowKit Go.Sort Rw YtkcfgbddlpomgaaGreat.Nm Pr Bk Av Rl Sb Fl
theorem nO (b:Br) (nv av sv ev ov:Sl) (t:eT) (lv:Sl) (l:List An) (w:World) (h:iI w b nv av sv ev ov) (hc:qU b) (hl:wH w (dU lv) l) (hn:NL l) :
  Calls Tryz.prog 17 #[mJ b.me nv av sv ev ov,mY t,dU lv] w fun e w'=>(∃ o:Sl,e=.returned (dU o)/\kS w' w.heap.size (dU o) (toB b t l))/\Below w.heap.size w w':=by
 obtain⟨no,nn,nc⟩:=nv;obtain⟨ao,an,ac⟩:=av;obtain⟨so,sn,sc⟩:=sv;obtain⟨eo,en,ec⟩:=ev;obtain⟨oo,eB,oc⟩:=ov;obtain⟨lo,ln,lc⟩:=lv;obtain⟨c,d⟩:=t;obtain⟨le,he1,he2⟩:=h.ent;obtain⟨h0,X,Y⟩:=iE w #[K L b.me,J no nn nc,J ao an ac,J so sn sc,J eo en ec,J oo eB oc] #[K L c,K L d] 33 38;have GB:=D h0;obtain⟨x0,x1,x2,x3,x4,x5⟩:=X.fB;obtain⟨y0,y1⟩:=Y.cs2;have hr:iB b.ent:=hc.ok.ent;have OFF:=D (Lr b.me (J no nn nc) (J ao an ac) (J so sn sc) (J oo eB oc) (eo,en,ec) le b.ent (c,d) _ (he1.on h0) (he2.mono fun _ _ q=>q.on h0) hr (by rw [he2.len]; exact hc.few.ent) hc.uY.ent);have HLL:=D (hl.on h0);have NLL:=D hn;have CB:=D hc;have HM:=D (show (mZ b.ent (c,d)).length<=900 from O (by rw [yM hr]; exact aj _ _) hc.few.ent);have OK:=D (show ∀ e∈mZ b.ent (c,d),dW e.p from fun e he=>hc.pe e ((Lx hr (c,d) e).1 he).1);have TI:=D (fun (r:List Int) (h1:r.Pairwise (·<·)) (h2:∀ x,x∈r↔x∈p9 (mZ b.ent (c,d)) l)=>agr hc (t:=(c,d)) (l:=l) h1 h2);generalize toB b (c,d) l=res at *;generalize mZ b.ent (c,d)=mb at *;clear X Y h hc hl hn h0 he1 he2 hr;go_enter Tryz.func17,Tryz.ntmps17;go_wp2_with fail;generalize (w.alloc (.cells #[K L b.me,J no nn nc,J ao an ac,J so sn sc,J eo en ec,J oo eB oc] 33)).alloc (.cells #[K L c,K L d] 38)=W at *;refine OFF.out.mono ?_;rintro e1 w1 ⟨⟨⟨z1,z2,z3⟩,lb,rfl,hr1,hr2⟩,hb⟩;have hnl:lb.length=z2:=ou hr1;have HN:=D hnl;have hz:z2<=900:=by have:=hr2.len; have:=HM.out; omega
 have B1:=D (GB.out.trans (hb.mono GB.out.size));have R1:=D hr1;have R2:=D hr2;have LL:=D (HLL.out.on hb);clear hr1 hr2 hb OFF HLL GB x0 x1 x2 x3 x4 x5 y0 y1 hnl;go_wp2
 go_loopw [7,14] (fun v i wr=>∃ k:Nat,k<=z2/\i=K L k/\Below w1.heap.size w1 wr/\kS wr w1.heap.size v (p9 (mb.take k) l)) (fun _ i _=>z2-(intOf i).toNat)
 case atStart=>exact⟨0,ay _,rfl,Below.refl _ _,gB _ _⟩
 case round =>
  obtain⟨k,hk,rfl,hbe,hown⟩:=hrel;have BE:=D hbe;have OE:=D hown;clear hbe hown;by_cases hlt:k<z2
  ·obtain⟨y,hy⟩:∃ y,lb[k]?=some y:=⟨_,U (by rw [HN.out]; exact hlt)⟩;obtain⟨q,ix,px⟩:=Pv R1.out rfl HN.out hy;obtain⟨p0,p1,p2,p3,p4,p5,p6⟩:=px wr BE.out;obtain⟨e,he,_,hin⟩:=lJ R2.out hy;obtain⟨y1,y2,y3,y4,⟨yo,yn,yc⟩,y6,y7⟩:=y;simp only at p0 p1 p2 p3 p4 p5 p6;have NB:=D (fI wr (.cells #[K L y1,K L y2,K L y3,K L y4,J yo yn yc,K L y6,.bool y7] 68));have BF:=D (BE.out.trans (NB.out.mono BE.out.size));have hx:=dO wr #[K L y1,K L y2,K L y3,K L y4,J yo yn yc,K L y6,.bool y7] 68;have hw3:IntKind.i64.wrap ((k:Int)+1)=(k:Int)+1:=IntWalk.i64_in _ (by omega);have HF:=D (show y6=e.from_ from hin.2.2.1);have HE:=D he;have OB:=D (Bk.dG OE.out NB.out);by_cases hp:y6=-1
   ·have hne:(y6 != -1)=false:=by simp [hp]
    have E2:=D (JW (l:=l) he (Or.inl (by rw [<- HF.out]; exact hp)));have v5:=hx.cell 5;simp only [ah,V,Z] at v5;clear hp px hy he hin hx;go_wp2
    go_roundw
    case rel=>exact⟨k+1,by omega,by go_num,BF.out,by rw [E2.out]; exact OB.out⟩
    case measure=>simp [intOf]; omega
   ·have hne:(y6 != -1)=true:=by simp [hp]
    have MA:=D (OH (J yo yn yc) (J lo ln lc) e.p l _ (hin.2.2.2.2.on BF.out) (LL.out.on BF.out) (OK.out e (List.mem_of_getElem? he)) NLL.out);have BX:=D hx;have NE:=D (show e.from_≠-1 by rw [<- HF.out]; exact hp);have v4:=hx.cell 4;have v5:=hx.cell 5;simp only [ah,V,Z] at v4 v5;obtain⟨g,hg⟩:∃ g,pR e.p l=g:=⟨_,rfl⟩;rw [hg] at MA;have HG:=D hg;clear hp px hy he hin hx hg;go_wp2_with fail;refine MA.out.mono ?_;rintro e3 w3 ⟨rfl,hb⟩;have BG:=D (BF.out.trans (hb.mono BF.out.size));have OC:=D (Bk.dG OB.out hb);have u5:=(BX.out.on hb).cell 5;simp only [ah,V,Z] at u5;clear hb MA v4 v5 BF OB NB p0 p1 p2 p3 p4 p5 p6 ix;cases g
    ·have E2:=D (JW (l:=l) HE.out (Or.inr HG.out));go_wp2
     go_roundw
     case rel=>exact⟨k+1,by omega,by go_num,BG.out,by rw [E2.out]; exact OC.out⟩
     case measure=>simp [intOf]; omega
    ·have E2:=D (Rs (l:=l) HE.out NE.out HG.out);have hl9:(p9 (mb.take k) l).length<=900:=O (Ez _ _) (O (List.length_take_le _ _) (by omega));obtain⟨v',w',r',o',bl⟩:=OJ y6 OC.out (by omega) BG.out.size BG.out;have O2:=D o';have B2:=D bl;clear hl9 o' bl BX;go_wp2_with (first | (at_builtin; refine wpList_append_run rfl _ _ 25 rfl rfl rfl r' ?_) | fail)
     go_roundw
     case rel=>exact⟨k+1,by omega,by go_num,B2.out,by rw [E2.out,<- HF.out]; exact O2.out⟩
     case measure=>simp [intOf]; omega
  ·obtain rfl:z2=k:=by omega
   have e:mb.take z2=mb:=List.take_of_length_le (by have:=HN.out; have:=R2.out.len; omega);rw [e] at OE;obtain⟨xU,xV,hv⟩:=(Row.dH OE.out).len;subst hv;have CR:=D (Ey wr w1.heap.size (xU,_,xV) _ OE.out (O (Ez _ _) HM.out) BE.out.size);clear e;generalize (p9 mb l).length=nn9 at *;go_wp2_with fail;refine CR.out.mono ?_;rintro e4 w4 ⟨⟨⟨r1,r2,r3⟩,lr,rfl,ho,hs,hm⟩,hb⟩;have Q:=D (show (∃ o:Sl,Ending.returned (J r1 r2 r3)=.returned (dU o)/\kS w4 w.heap.size (dU o) res)/\Below w.heap.size w w4 from ⟨⟨(r1,r2,r3),rfl,by rw [<- TI.out lr hs hm]; exact dJ ho B1.out.size⟩,B1.out.trans ((BE.out.trans hb).mono B1.out.size)⟩);clear ho hs hm hb CR TI;go_wp2;go_ret;exact Q.out
theorem J5 (b:Br) (nv av sv ev ov:Sl) (f k0:Int) (t x:eT) (lv:Sl) (l:List An) (w:World) (h:iI w b nv av sv ev ov) (hc:qU b) (hl:wH w (dU lv) l) (hn:NL l) :
  Calls Tryz.prog 11 #[mJ b.me nv av sv ev ov,K L f,.agg #[K L k0,K L t.1,K L t.2,K L x.1,K L x.2,J none 0 0,dU lv]] w fun e w'=>(∃ o d:Sl,e=.returned (.tuple #[dU o,dU d])/\(∃ lx,jB w' w.heap.size (dU o) lx/\eH (OuA w') lx (Gx k0 t x l (qO b f t l).1))/\∃ ly,IE w' w.heap.size (dU d) ly/\eH (DlA w') ly (JR x l (qO b f t l).2))/\Below w.heap.size w w':=by
 obtain⟨s1,s2,s3⟩:=nv;obtain⟨s4,s5,s6⟩:=av;obtain⟨s7,s8,s9⟩:=sv;obtain⟨s10,s11,s12⟩:=ev;obtain⟨s13,s14,s15⟩:=ov;obtain⟨po,pn,pc⟩:=lv;obtain⟨t1,t2⟩:=t;obtain⟨x1,x2⟩:=x;obtain⟨la,ha1,ha2⟩:=h.dQ;obtain⟨NB,K3,K5⟩:=iE w #[K L b.me,J s1 s2 s3,J s4 s5 s6,J s7 s8 s9,J s10 s11 s12,J s13 s14 s15] #[K L k0,K L t1,K L t2,K L x1,K L x2,J none 0 0,J po pn pc] 33 43;have SW:=D (IZ b.me (J s1 s2 s3) (J s7 s8 s9) (J s10 s11 s12) (J s13 s14 s15) (s4,s5,s6) la b.dQ (t1,t2) _ (ha1.on NB) (ha2.mono fun _ _ q=>q.on NB) hc.uY.dQ);have gU:=D (NB);have oP:=D (K3);have lV:=D (K5);have agE:=D (h.on NB);have agF:=D (hl.on NB);have CB:=D hc;have Mv:=D hn;have L5:=D (show l.length<=900 by have:=hn.five; omega);have NF:=D hc.few.near;clear NB K3 K5 ha1 ha2 h hc hl hn;go_enter Tryz.func11,Tryz.ntmps11;go_upto_region 1 with fail;generalize (w.alloc (.cells #[K L b.me,J s1 s2 s3,J s4 s5 s6,J s7 s8 s9,J s10 s11 s12,J s13 s14 s15] 33)).alloc (.cells #[K L k0,K L t1,K L t2,K L x1,K L x2,J none 0 0,J po pn pc] 43)=W at *;obtain⟨Mw,Mx,MF,MG,MH,MI⟩:=oP.out.fB;obtain⟨xm0,xm1,xm2,xm3,xm4,xm5,xm6⟩:=lV.out.oI;go_wp2_with fail;refine SW.out.mono ?_;rintro e1 w1 ⟨hq,hb⟩;clear Mw Mx MF MG MH MI xm0 xm1 xm2 xm3 xm4 xm5 xm6;clear SW;have jD:=D (gU.out.trans (hb.mono gU.out.size));have tL:=D (oP.out.on hb);have UC:=D (lV.out.on hb);have GH:=D (agE.out.on hb);have agN:=D (agF.out.on hb);clear gU oP lV agE agF;clear hb;cases hfa:gD b.dQ (t1,t2) with
 | none =>
  rw [hfa] at hq;obtain rfl:=hq;have HC:=D (WX (f:=f) (l:=l) hfa);clear hfa;go_wp2
  go_ret2
  exact⟨⟨(none,0,0),(none,0,0),rfl,⟨[],gB _ _,by rw [HC.out]; exact .nil⟩,[],gB _ _,by rw [HC.out]; exact .nil⟩,(jD).out.alloc (jD).out.size _⟩
 | some a =>
  rw [hfa] at hq;obtain⟨⟨r1,r2,⟨ro,rn,rc⟩,r4⟩,rfl,hin⟩:=hq;have HP:=D (show r4=a.par from hin.2.1);clear hin;by_cases hp:r4=f
  ·have hne:(r4 != f)=false:=by simp [hp]
   have HC:=D (WY (f:=f) (l:=l) hfa (by rw [<- HP.out]; exact hp));clear hp hfa HP;generalize hns:toB b (t1,t2) l=ns at HC;generalize hcs:q8 b l=cs at HC;have TO:=D (fun W h1 h2=>nO b (s1,s2,s3) (s4,s5,s6) (s7,s8,s9) (s10,s11,s12) (s13,s14,s15) (t1,t2) (po,pn,pc) l W h1 CB.out h2 Mv.out);have CL:=D (fun W h1 h2=>Gy b (s1,s2,s3) (s4,s5,s6) (s7,s8,s9) (s10,s11,s12) (s13,s14,s15) (po,pn,pc) l W h1 CB.out h2 Mv.out);have LN:=D (show ns.length<=900 by rw [<- hns]; exact O (aj _ _) NF.out);have LC:=D (show cs.length<=900 by rw [<- hcs]; exact O (JU b l) (by decide));rw [hns] at TO;rw [hcs] at CL;clear hns hcs NF CB Mv;have NB:=fI w1 (.cells #[K L r1,K L r2,J ro rn rc,K L r4] 53);have kZ:=D (jD.out.trans (NB.mono jD.out.size));have nW:=D (tL.out.on NB);have CY:=D (UC.out.on NB);have RY:=D (GH.out.on NB);have aef:=D (agN.out.on NB);clear jD tL UC GH agN;clear NB;go_upto_region 4 with fail;clear hne;generalize w1.alloc (.cells #[K L r1,K L r2,J ro rn rc,K L r4] 53)=w2 at *;obtain⟨Mw,Mx,MF,MG,MH,MI⟩:=nW.out.fB;obtain⟨xm0,xm1,xm2,xm3,xm4,xm5,xm6⟩:=CY.out.oI;go_wp2_with fail;refine (TO.out w2 RY.out aef.out).mono ?_;rintro e3 w3 ⟨⟨⟨g1,g2,g3⟩,rfl,hg⟩,hb⟩;clear Mw Mx MF MG MH MI xm0 xm1 xm2 xm3 xm4 xm5 xm6;clear TO;have qj:=D (kZ.out.trans (hb.mono kZ.out.size));have agO:=D (nW.out.on hb);have aeg:=D (CY.out.on hb);have agP:=D (RY.out.on hb);have aeh:=D (aef.out.on hb);clear kZ nW CY RY aef;have ZH:=D (Row.dH hg);clear hb hg;have hgn:ns.length=g2:=ou ZH.out;subst hgn;go_wp2
   go_loopw [10,38] (fun v i wr=>∃ (k:Nat) (lx:List qd),k<=ns.length/\i=K L k/\Below w3.heap.size w3 wr/\jB wr w3.heap.size v lx/\eH (OY wr w3.heap.size) lx (Gx k0 (t1,t2) (x1,x2) l (ns.take k))) (fun _ i _=>ns.length-(intOf i).toNat)
   case atStart=>exact⟨0,[],ay _,rfl,Below.refl _ _,gB _ _,.nil⟩
   case round =>
    obtain⟨k,lx,hk,rfl,hbe,hown,hall⟩:=hrel;have BE:=D hbe;have OE:=D hown;have AE:=D hall;clear hbe hown hall;by_cases hlt:k<ns.length
    ·obtain⟨n,hy⟩:∃ n,ns[k]?=some n:=⟨_,U hlt⟩;obtain⟨q,ix,px⟩:=elI ZH.out rfl rfl hy;have p0:=px.2 wr BE.out;have hw3:IntKind.i64.wrap ((k:Int)+1)=(k:Int)+1:=IntWalk.i64_in _ (by have:=LN.out; omega);have CM:=D (ZG k0 t1 t2 x1 x2 (po,pn,pc) l wr (aeh.out.on BE.out) L5.out);have HY:=D (Rv (k:=k0) (t:=(t1,t2)) (x:=(x1,x2)) (l:=l) hy);have BX:=aeg.out.on BE.out;obtain⟨m0,m1,m2,m3,m4,m5,m6⟩:=BX.oI;clear px hy BX;go_wp2_with fail;refine CM.out.mono ?_;rintro e4 w4 ⟨⟨⟨u1,u2,u3⟩,rfl,ho⟩,hb⟩;have hlx:lx.length<=1000:=by have:=AE.out.len; unfold Gx at this; rw [aA,ak] at this; have:=LN.out; omega
     obtain⟨v',w',r',o',a',bl⟩:=ad9 (n,k0,t1,t2,x1,x2,(none,0,0),(u1,u2,u3)) (⟨n,k0,(t1,t2),(x1,x2),[]⟩,l) (Bk.dG OE.out hb) (AE.out.mono fun _ _ q=>q.on hb) ⟨rfl,rfl,rfl,rfl,rfl,rfl,dJ ho BE.out.size⟩ hlx (O BE.out.size hb.size) (BE.out.trans (hb.mono BE.out.size));have O2:=D o';have A2:=D a';have B2:=D bl;clear CM hb ho o' a' bl hlx p0 ix m0 m1 m2 m3 m4 m5 m6;go_wp2_with (first | (at_builtin; refine wpList_append_run rfl _ _ 44 rfl rfl rfl r' ?_) | fail)
     go_roundw
     case rel=>exact⟨k+1,_,by omega,by go_num,B2.out,O2.out,by rw [HY.out]; exact A2.out⟩
     case measure=>simp [intOf]; omega
    ·obtain rfl:k=ns.length:=by omega
     rw [au] at AE;obtain⟨xU,xV,hv⟩:=(Row.dH OE.out).len;subst hv;have WS:=D (show w.heap.size<=w3.heap.size from qj.out.size);have oG:=D (qj.out.trans (BE.out.mono qj.out.size));have Xk:=D (agO.out.on BE.out);have yY:=D (aeg.out.on BE.out);have Xl:=D (agP.out.on BE.out);have Xm:=D (aeh.out.on BE.out);have agQ:=D (ZH.out.on BE.out);clear qj agO aeg agP aeh ZH;have aby:=D (dJ OE.out WS.out);clear WS;have abz:=D (AE.out.mono fun _ _ q=>q.a);clear BE OE AE;obtain⟨Mw,Mx,MF,MG,MH,MI⟩:=Xk.out.fB;obtain⟨xm0,xm1,xm2,xm3,xm4,xm5,xm6⟩:=yY.out.oI;go_wp2_with fail;refine (CL.out wr Xl.out Xm.out).mono ?_;rintro e5 w5 ⟨⟨⟨j1,j2,j3⟩,rfl,hg⟩,hb⟩;clear Mw Mx MF MG MH MI xm0 xm1 xm2 xm3 xm4 xm5 xm6;clear CL;clear agQ;have zi:=D (oG.out.trans (hb.mono oG.out.size));have xG:=D (Xk.out.on hb);have Xn:=D (yY.out.on hb);have EP:=D (Xl.out.on hb);have Cm:=D (Xm.out.on hb);have abA:=D (Bk.dG aby.out hb);have abB:=D (abz.out.mono fun _ _ q=>q.on hb);clear oG Xk yY Xl Xm aby abz;have O7:=D (Row.dH hg);clear hb hg;have hgn:cs.length=j2:=ou O7.out;subst hgn;go_wp2
     go_loopw [13,55] (fun v i wr=>∃ (k:Nat) (ly:List FZ),k<=cs.length/\i=K L k/\Below w5.heap.size w5 wr/\IE wr w5.heap.size v ly/\eH (Ka wr w5.heap.size) ly (JR (x1,x2) l (cs.take k))) (fun _ i _=>cs.length-(intOf i).toNat)
     case atStart=>exact⟨0,[],ay _,rfl,Below.refl _ _,gB _ _,.nil⟩
     case round =>
      rename_i wp
      obtain⟨k,ly,hk,rfl,hbe,hown,hall⟩:=hrel;have BE:=D hbe;have OE:=D hown;have AE:=D hall;clear hbe hown hall;by_cases hlt:k<cs.length
      ·obtain⟨n,hy⟩:∃ n,cs[k]?=some n:=⟨_,U hlt⟩;obtain⟨q,ix,px⟩:=elI O7.out rfl rfl hy;have p0:=px.2 wr BE.out;have hw3:IntKind.i64.wrap ((k:Int)+1)=(k:Int)+1:=IntWalk.i64_in _ (by have:=LC.out; omega);have HY:=D (Rx (x:=(x1,x2)) (l:=l) hy);clear px hy;go_upto_region 14 with fail;have hly:ly.length<=900:=by have:=AE.out.len; unfold JR at this; rw [aA,ak] at this; have:=LC.out; omega
       refine agD _ wr w5.heap.size _ k0 t1 t2 x1 x2 n po pn pc l _ ly _ _ _ _ _ _ _ _ _ _ _ _ _ _ _ _ _ _ _ _ _ _ _ _ _ _ _ _ _ _ _ _ _ _ _ _ _ _ _ _ _ _ _ _ _ _ _ _ _ _ _ _ _ _ _ _ _ _ _ _ _ _ _ _ _ _ _ _ _ _ (Xn.out.on BE.out) (Cm.out.on BE.out) L5.out OE.out AE.out BE.out.size hly ?_;intro x6 w13 v59 v60 v61 v62 v63 v64 v65 v66 v67 v68 q o6 a6 b6;have O2:=D o6;have A2:=D a6;have B2:=D (BE.out.trans b6);clear o6 a6 b6 p0 ix;go_wp2
       go_roundw
       case rel=>exact⟨k+1,_,by omega,by go_num,B2.out,O2.out,by rw [HY.out]; exact A2.out⟩
       case measure=>simp [intOf]; omega
      ·obtain rfl:k=cs.length:=by omega
       rw [au] at AE;obtain⟨vo3,vo4,hv⟩:=(Row.dH OE.out).len;subst hv;have WS:=D (show w.heap.size<=w5.heap.size from zi.out.size);have BP:=D (zi.out.trans (BE.out.mono zi.out.size));have Wo:=D (xG.out.on BE.out);have akF:=D (Xn.out.on BE.out);have akG:=D (EP.out.on BE.out);have akH:=D (Cm.out.on BE.out);have agR:=D (Bk.dG abA.out BE.out);have agS:=D (abB.out.mono fun _ _ q=>q.on BE.out);have akI:=D (O7.out.on BE.out);clear zi xG Xn EP Cm abA abB O7;go_wp2
       go_ret2
       exact⟨⟨(xU,_,xV),(vo3,_,vo4),rfl,⟨_,agR.out,by rw [HC.out]; exact agS.out⟩,_,dJ OE.out WS.out,by rw [HC.out]; exact AE.out.mono fun _ _ q=>q.a⟩,BP.out⟩
  ·have hne:(r4 != f)=true:=by simp [hp]
   have HC:=D (Mq (f:=f) (l:=l) hfa (by rw [<- HP.out]; exact hp));clear hp hfa HP;go_wp2
   go_ret2
   exact⟨⟨(none,0,0),(none,0,0),rfl,⟨[],gB _ _,by rw [HC.out]; exact .nil⟩,[],gB _ _,by rw [HC.out]; exact .nil⟩,(jD).out.alloc (jD).out.size _⟩
end Go.Proofs.YtkcfgbddlpomgaaGreat.Ca
